import inspect
import unittest

from cascade.errors import HallError, NoMachine, NoName, NoRow, NoText, TooMany
from cascade.monoid import all_turns, table
from samples import (
    EVERY_TURN_OF_FOUR, EXCHANGES, FLAT, RING, TURNS_399, TURNS_400, TURNS_401, TURNS_3125, UP_AND_SWAP, machines,
    own_lists, slow_behind, slow_led, word_place, words,
)

MANY = 5 ** 5


def slow_turn(machine, word):
    return tuple(slow_led(machine, room, word) for room in range(len(machine[0])))


def slow_count(machine):
    found = {tuple(range(len(machine[0])))}
    wave = found
    while wave:
        wave = {slow_behind(turn, letter) for turn in wave for letter in machine} - found
        found = found | wave
    return len(found)


class Refused(unittest.TestCase):
    def refused(self, most, ask, *handed):
        with self.assertRaises(TooMany) as taken:
            ask(*handed)
        self.assertEqual(taken.exception.most, most)
        self.assertIsInstance(taken.exception, HallError)
        self.assertIsInstance(taken.exception, ValueError)
        self.assertNotIsInstance(taken.exception, (NoMachine, NoText, NoRow, NoName))

    def test_one_fewer_as_many_and_one_more(self):
        for machine in machines(4):
            count = slow_count(machine)
            for ask in (all_turns, table):
                if count <= 401:
                    self.refused(count - 1, ask, machine, count - 1)
                    self.assertEqual(len(ask(machine, count)), count)
                    self.assertEqual(ask(machine, count + 1), ask(machine, count))

    def test_a_most_of_one(self):
        for ask in (all_turns, table):
            self.assertEqual(len(ask(((0,), (0,)), 1)), 1)
            self.assertEqual(len(ask(((0, 1, 2),), 1)), 1)
            self.refused(1, ask, ((1, 0),), 1)
            self.refused(1, ask, ((0, 0),), 1)

    def test_most_left_out_is_400(self):
        for ask in (all_turns, table):
            self.assertEqual(len(ask(TURNS_399)), 399)
            self.assertEqual(len(ask(TURNS_400)), 400)
            self.refused(400, ask, TURNS_401)
            self.refused(400, ask, TURNS_3125)
            self.assertEqual(ask(UP_AND_SWAP), ask(UP_AND_SWAP, 400))
            self.assertEqual(inspect.signature(ask).parameters["most"].default, 400)
            self.assertEqual(list(inspect.signature(ask).parameters), ["machine", "most"])

    def test_most_by_its_name(self):
        for ask in (all_turns, table):
            self.assertEqual(len(ask(machine=RING, most=5)), 5)
            self.refused(4, lambda: ask(machine=RING, most=4))

    def test_somewhat_beyond_the_bounds_of_most(self):
        for ask in (all_turns, table):
            self.assertEqual(len(ask(TURNS_401, 401)), 401)
            self.assertEqual(len(ask(TURNS_401, 450)), 401)
            self.refused(0, ask, ((0,),), 0)

    def test_told_as_before_behind_a_refusal(self):
        before = all_turns(RING)
        self.refused(2, all_turns, RING, 2)
        self.assertEqual(all_turns(RING), before)


class AllTurns(unittest.TestCase):
    def test_known_ones(self):
        self.assertEqual(all_turns(((0,), (0,))), [((0,), [])])
        self.assertEqual(all_turns(((1, 0),)), [((0, 1), []), ((1, 0), [0])])
        self.assertEqual(all_turns(((1, 2, 0),)), [((0, 1, 2), []), ((1, 2, 0), [0]), ((2, 0, 1), [0, 0])])
        self.assertEqual(all_turns(FLAT), [((0, 1, 2, 3, 4), []), ((0,) * 5, [0]), ((1,) * 5, [1])])
        self.assertEqual(all_turns(UP_AND_SWAP), [
            ((0, 1, 2), []), ((1, 2, 2), [0]), ((1, 0, 2), [1]), ((2, 2, 2), [0, 0]), ((0, 2, 2), [0, 1]),
            ((2, 1, 2), [1, 0]), ((2, 0, 2), [1, 0, 1])])

    def test_counts(self):
        self.assertEqual(len(all_turns(EXCHANGES)), 120)
        self.assertEqual(len(all_turns(EVERY_TURN_OF_FOUR)), 256)

    def test_the_still_turn_first(self):
        for machine in machines(8):
            self.assertEqual(all_turns(machine, MANY)[0], (tuple(range(len(machine[0]))), []))

    def test_each_turn_once_with_its_word_in_the_order_of_the_words(self):
        for machine in machines(8):
            told = all_turns(machine, MANY)
            self.assertIs(type(told), list)
            self.assertEqual(len(dict(told)), slow_count(machine))
            self.assertEqual(len(told), len(dict(told)))
            for entry in told:
                self.assertIs(type(entry), tuple)
                self.assertEqual([type(part) for part in entry], [tuple, list])
                self.assertEqual(entry[0], slow_turn(machine, entry[1]))
            places = [word_place(word) for turn, word in told]
            self.assertTrue(all(one < other for one, other in zip(places, places[1:])))

    def test_of_the_words_of_few_letters_none_is_ahead(self):
        for machine in machines(3):
            told = dict(all_turns(machine, MANY))
            for word in words(len(machine), 5 if len(machine) < 4 else 4):
                self.assertLessEqual(word_place(told[slow_turn(machine, word)]), word_place(word))

    def test_no_letter_behind_a_told_word_comes_ahead_of_one(self):
        # With each least word and each letter this holds for all words, whatever many letters they have.
        for machine in machines(8):
            told = dict(all_turns(machine, MANY))
            for turn, word in told.items():
                for letter in range(len(machine)):
                    least = told[slow_behind(turn, machine[letter])]
                    self.assertLessEqual(word_place(least), word_place(word + [letter]))


class Table(unittest.TestCase):
    def test_known_ones(self):
        self.assertEqual(table(((0,), (0,))), [(0, 0)])
        self.assertEqual(table(((1, 2, 0),)), [(1,), (2,), (0,)])
        self.assertEqual(table(UP_AND_SWAP), [(1, 2), (3, 4), (5, 0), (3, 3), (1, 1), (3, 6), (5, 5)])

    def test_the_numbers_against_the_turns(self):
        for machine in machines(8):
            turns = [turn for turn, word in all_turns(machine, MANY)]
            told = table(machine, MANY)
            self.assertIs(type(told), list)
            self.assertEqual(len(told), len(turns))
            for turn, row in zip(turns, told):
                self.assertIs(type(row), tuple)
                self.assertEqual([turns[number] for number in row], [slow_behind(turn, letter) for letter in machine])


class OwnLists(unittest.TestCase):
    def test_what_is_told_is_the_askers_own(self):
        for machine in machines(2):
            own_lists(self, all_turns, machine, MANY)
            own_lists(self, table, machine, MANY)


if __name__ == "__main__":
    unittest.main()
