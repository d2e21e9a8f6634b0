import itertools
import unittest

from cascade.about import about, all_rests
from cascade.errors import HallError, TooMany
from cascade.levels import carry, levels
from cascade.monoid import all_turns
from cascade.rows import Row
from cascade.tilings import rests, tiles_turned
from samples import (
    EVERY_TURN_OF_FOUR, EXCHANGES, FLAT, RING, TURNS_399, TURNS_400, TURNS_401, TURNS_3125, UP_AND_DOWN, UP_AND_SWAP,
    every, machines, own_lists, slow_carried, slow_led, word_place, words,
)


def slow_turn(machine, word):
    return tuple(slow_led(machine, room, word) for room in range(len(machine[0])))


def slow_rest(turn):
    powers = [tuple(range(len(turn)))]
    while powers[-1] not in powers[:-1]:
        powers.append(tuple(turn[room] for room in powers[-1]))
    begin = powers.index(powers[-1])
    return (begin, len(powers) - 1 - begin)


def turned_about(machine, rooms, word):
    return slow_carried(machine, rooms, word) == rooms and any(slow_led(machine, room, word) != room for room in rooms)


def all_sets(rooms):
    return [found for size in range(1, rooms + 1) for found in itertools.combinations(range(rooms), size)]


class AllRests(unittest.TestCase):
    def test_known_ones(self):
        self.assertEqual(all_rests(((0,),)), [(0, 1)])
        self.assertEqual(all_rests(RING), [(0, 1)] + [(0, 5)] * 4)
        self.assertEqual(all_rests(((1, 2, 3, 4, 3),)), [(0, 1), (3, 2), (2, 1), (1, 2), (1, 1)])
        self.assertEqual(all_rests(UP_AND_SWAP), [(0, 1), (2, 1), (0, 2), (1, 1), (1, 1), (1, 1), (2, 1)])

    def test_each_of_all_turns_in_their_order(self):
        for machine in machines(10):
            told = all_rests(machine, 3125)
            self.assertIs(type(told), list)
            self.assertEqual({type(rest) for rest in told}, {tuple})
            self.assertEqual(told, [slow_rest(slow_turn(machine, word)) for turn, word in all_turns(machine, 3125)])

    def test_most(self):
        for machine in machines(2):
            count = len(all_turns(machine, 3125))
            if count <= 400:
                self.assertEqual(len(all_rests(machine, count)), count)
                self.assertEqual(all_rests(machine, count + 1), all_rests(machine, count))
            if 1 < count <= 401:
                with self.assertRaises(TooMany) as taken:
                    all_rests(machine, count - 1)
                self.assertEqual(taken.exception.most, count - 1)
                self.assertIsInstance(taken.exception, HallError)

    def test_most_left_out_is_400(self):
        self.assertEqual(len(all_rests(TURNS_399)), 399)
        self.assertEqual(len(all_rests(TURNS_400)), 400)
        for machine in (TURNS_401, TURNS_3125):
            with self.assertRaises(TooMany) as taken:
                all_rests(machine)
            self.assertEqual(taken.exception.most, 400)


class About(unittest.TestCase):
    def test_none_where_each_level_rests(self):
        for machine in (((0,),), ((0,), (0,), (0,), (0,)), ((0, 1),), ((1, 1),), FLAT, UP_AND_DOWN):
            self.assertIsNone(about(machine))

    def test_the_first_level_turns(self):
        self.assertEqual(about(((1, 0),)), ([0], (0, 1)))
        self.assertEqual(about(RING), ([0], (0, 1, 2, 3, 4)))
        self.assertEqual(about(EXCHANGES), ([0], (0, 1, 2, 3, 4)))
        self.assertEqual(about(EVERY_TURN_OF_FOUR), ([0], (0, 1, 2, 3)))
        self.assertEqual(about(UP_AND_SWAP), ([1], (0, 1, 2)))

    def test_a_later_level_turns(self):
        self.assertEqual(about(((1, 0, 0),)), ([0], (0, 1)))
        self.assertEqual(about(((2, 2, 1, 1, 0),)), ([0], (1, 2)))
        self.assertEqual(about(TURNS_399), ([3], (1, 2, 3, 4)))

    def test_the_way_back(self):
        self.assertEqual(about(((1, 2, 2), (2, 1, 1), (0, 0, 2))), ([1, 2], (0, 2)))
        self.assertEqual(about(((2, 2, 1), (0, 0, 2), (1, 1, 2))), ([2, 0, 1], (0, 2)))

    def test_the_way_there(self):
        self.assertEqual(about(((0, 0, 2), (2, 2, 1))), ([1, 0], (0, 2)))
        self.assertEqual(about(((1, 3, 0, 3), (2, 1, 2, 2))), ([0, 1, 0], (0, 3)))

    # The sets (0, 2) and (1, 2), the way [0] to the second one, whose tiles letter 0 turns; letter 1 leads from
    # its carry (2, 1) back to (0, 2).
    def test_the_way_there_and_back(self):
        self.assertEqual(about(((2, 2, 1), (0, 2, 0))), ([0, 0, 1], (0, 2)))
        self.assertEqual(about(((2, 0, 0), (0, 0, 1))), ([0, 0, 0, 1], (0, 1)))

    def test_it_turns_the_face_about(self):
        for machine in machines(20) + every(3, 2):
            told = about(machine)
            turning = [level for level in levels(machine) if not rests(machine, level)]
            self.assertEqual(told is None, not turning)
            if told is not None:
                self.assertIs(type(told), tuple)
                word, face = told
                self.assertIs(type(word), list)
                self.assertEqual(face, turning[0][0][0])
                self.assertTrue(turned_about(machine, face, word))

    def test_it_is_the_word_that_is_told(self):
        for machine in machines(20) + every(3, 2):
            told = about(machine)
            if told is not None:
                self.assertEqual(told[0], slow_word(machine))

    def test_the_way_back_is_the_least_word(self):
        for machine in machines(10) + every(3, 2):
            if about(machine) is not None:
                way, letter, starts, face = slow_start(machine)
                back = about(machine)[0][len(way) + 1:]
                ends = [tuple(slow_led(machine, room, word) for room in starts) for word in words(len(machine), 4)]
                if face in ends:
                    self.assertEqual(back, list(words(len(machine), 4))[ends.index(face)])
                else:
                    self.assertGreater(len(back), 4)

    def test_it_turns_the_tiles_as_the_letter_does(self):
        for machine in machines(10):
            told = about(machine)
            if told is not None:
                level = [level for level in levels(machine) if not rests(machine, level)][0]
                ends = tuple(level[1].index(slow_carried(machine, part, told[0])) for part in level[1])
                k, letter = slow_first(machine, level)
                self.assertEqual(ends, tiles_turned(machine, level, k, letter))


def slow_first(machine, level):
    still = tuple(range(len(level[1])))
    for k, letter in itertools.product(range(len(level[0])), range(len(machine))):
        if tiles_turned(machine, level, k, letter) not in (None, still):
            return k, letter


def slow_start(machine):
    level = [level for level in levels(machine) if not rests(machine, level)][0]
    k, letter = slow_first(machine, level)
    m = level[0].index(slow_carried(machine, level[0][k], [letter]))
    return level[2][k], letter, carry(machine, level, m), level[0][0]


def slow_word(machine):
    """The way back is the least of the least words of all turns that lead back place by place."""
    way, letter, starts, face = slow_start(machine)
    backs = [word for turn, word in all_turns(machine, 3125) if tuple(turn[room] for room in starts) == face]
    return way + [letter] + min(backs, key=word_place)


class WhatTurnsAbout(unittest.TestCase):
    # A word turns a set about just as its turn does, so all turns stand for all words.
    def test_a_turning_part_is_there_where_some_word_turns_a_set_about(self):
        seen = []
        for machine in machines(10) + every(3, 2):
            turns = [turn for turn, word in all_turns(machine, 3125)]
            if len(turns) <= 500:
                turned = any(turned_about((turn,), rooms, [0]) for turn in turns for rooms in all_sets(len(machine[0])))
                self.assertEqual("turn" in [part[0] for part in Row(machine).parts()], turned)
                self.assertEqual(about(machine) is not None, turned)
                self.assertEqual({rest[1] for rest in all_rests(machine, 500)} != {1}, turned)
                seen.append(turned)
        self.assertEqual(set(seen), {True, False})


class OwnLists(unittest.TestCase):
    def test_what_is_told_is_the_askers_own(self):
        for machine in machines(2):
            own_lists(self, about, machine)
            own_lists(self, all_rests, machine, 3125)


if __name__ == "__main__":
    unittest.main()
