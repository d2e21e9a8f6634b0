import itertools
import unittest

from cascade.family import family, tiles
from cascade.levels import carry, leads, levels, tile
from samples import (
    EXCHANGES, FLAT, RING, UP_AND_DOWN, UP_AND_SWAP, drawn, machines, own_lists, slow_carried, slow_led, word_place,
    words,
)

# Here the level of (0, 2) leads to that of (0, 1), whose face would be ahead of it.
LATER_FACE_FIRST = ((1, 1, 0), (0, 0, 2))


def set_place(rooms):
    return (-len(rooms), rooms)


def slow_reach(machine, rooms):
    found = {rooms}
    while True:
        more = found | {slow_carried(machine, here, [letter]) for here in found for letter in range(len(machine))}
        if more == found:
            return found
        found = more


def slow_sets_of_levels(machine):
    """Word for word as the order of levels is told."""
    reach = {rooms: slow_reach(machine, rooms) for rooms in family(machine) if len(rooms) > 1}
    alike = {frozenset(other for other in reach if other in reach[one] and one in reach[other]) for one in reach}
    told = []
    for count in range(5, 1, -1):
        left = [level for level in alike if len(min(level)) == count]
        while left:
            free = [level for level in left
                    if not any(rooms in reach[one] for other in left if other != level for one in other
                               for rooms in level)]
            due = min(free, key=lambda level: set_place(min(level, key=set_place)))
            told.append(sorted(due, key=set_place))
            left.remove(due)
    return told


class Leads(unittest.TestCase):
    def test_a_set_and_itself(self):
        for machine in machines(4):
            for rooms in family(machine):
                self.assertEqual(leads(machine, rooms, rooms), [])

    def test_both_ways(self):
        self.assertEqual(leads(UP_AND_SWAP, (0, 2), (1, 2)), [0])
        self.assertEqual(leads(UP_AND_SWAP, (1, 2), (0, 2)), [1])
        self.assertEqual(leads(RING, (0, 1), (2, 3)), [0, 0])
        self.assertEqual(leads(RING, (2, 3), (0, 1)), [0, 0, 0])

    def test_one_way_alone(self):
        self.assertEqual(leads(UP_AND_SWAP, (0, 1, 2), (0, 2)), [0, 1])
        self.assertIsNone(leads(UP_AND_SWAP, (0, 2), (0, 1, 2)))
        self.assertEqual(leads(LATER_FACE_FIRST, (0, 2), (0, 1)), [0])
        self.assertIsNone(leads(LATER_FACE_FIRST, (0, 1), (0, 2)))

    def test_neither_way(self):
        machine = ((0, 0, 2, 2), (0, 1, 2, 3))
        self.assertIsNone(leads(machine, (0, 1), (2, 3)))
        self.assertIsNone(leads(machine, (2, 3), (0, 1)))
        self.assertIsNone(leads(machine, (0,), (2,)))

    def test_sets_that_are_in_no_family(self):
        self.assertEqual(leads(EXCHANGES, (0, 2), (3, 4)), [1, 0, 0])
        for one, other in itertools.product(itertools.combinations(range(5), 3), repeat=2):
            least = next(word for word in words(2, 9) if slow_carried(EXCHANGES, one, word) == other)
            self.assertEqual(leads(EXCHANGES, one, other), least)

    def test_of_several_words_the_least(self):
        self.assertEqual(leads(((1, 0), (0, 0), (0, 0)), (0, 1), (0,)), [1])
        self.assertEqual(leads(((1, 1), (0, 0), (0, 0)), (0, 1), (0,)), [1])
        self.assertEqual(leads(((1, 2, 3, 4, 0), (1, 2, 3, 4, 0)), (0,), (3,)), [0, 0, 0])
        self.assertEqual(leads(((1, 2, 3, 4, 0), (2, 3, 4, 0, 1)), (0,), (3,)), [0, 1])
        self.assertEqual(leads(((1, 2, 3, 4, 0), (2, 3, 4, 0, 1)), (0,), (4,)), [1, 1])

    def test_each_two_sets(self):
        for machine in machines(3):
            count = len(machine[0])
            sets = [rooms for many in range(1, count + 1) for rooms in itertools.combinations(range(count), many)]
            for one in sets:
                reach = slow_reach(machine, one)
                told = {other: leads(machine, one, other) for other in sets}
                for other, word in told.items():
                    self.assertEqual(word is not None, other in reach)
                    if word is not None:
                        self.assertIs(type(word), list)
                        self.assertEqual(slow_carried(machine, one, word), other)
                        for letter in range(len(machine)):
                            least = told[slow_carried(machine, other, [letter])]
                            self.assertLessEqual(word_place(least), word_place(word + [letter]))

    def test_of_the_words_of_few_letters_none_is_ahead(self):
        for machine in machines(1):
            for one in family(machine):
                for word in words(len(machine), 3):
                    least = leads(machine, one, slow_carried(machine, one, word))
                    self.assertLessEqual(word_place(least), word_place(word))


class Levels(unittest.TestCase):
    def test_one_room_has_no_level(self):
        self.assertEqual(levels(((0,),)), [])
        self.assertEqual(levels(((0,), (0,), (0,), (0,))), [])

    def test_two_rooms_have_one(self):
        for machine in (((0, 1),), ((1, 0),), ((0, 0),), ((1, 1), (1, 0))):
            self.assertEqual(levels(machine), [([(0, 1)], [(0,), (1,)], [[]])])

    def test_known_ones(self):
        self.assertEqual(levels(UP_AND_SWAP), [
            ([(0, 1, 2)], [(0, 2), (1, 2)], [[]]),
            ([(0, 2), (1, 2)], [(0,), (2,)], [[], [0]]),
        ])
        self.assertEqual(levels(FLAT), [([(0, 1, 2, 3, 4)], [(0,), (1,), (2,), (3,), (4,)], [[]])])
        self.assertEqual(levels(UP_AND_DOWN), [
            ([(0, 1, 2, 3, 4)], [(0, 1, 2, 3), (1, 2, 3, 4)], [[]]),
            ([(0, 1, 2, 3), (1, 2, 3, 4)], [(0, 1, 2), (1, 2, 3)], [[], [0]]),
            ([(0, 1, 2), (1, 2, 3), (2, 3, 4)], [(0, 1), (1, 2)], [[], [0], [0, 0]]),
            ([(0, 1), (1, 2), (2, 3), (3, 4)], [(0,), (1,)], [[], [0], [0, 0], [0, 0, 0]]),
        ])

    def test_one_level_leads_to_another_of_as_many_rooms(self):
        self.assertEqual(levels(LATER_FACE_FIRST), [
            ([(0, 1, 2)], [(0, 1), (0, 2)], [[]]),
            ([(0, 2)], [(0,), (2,)], [[]]),
            ([(0, 1)], [(0,), (1,)], [[]]),
        ])

    def test_none_leads_to_another_of_as_many_rooms(self):
        machine = ((0, 1, 0, 0, 0), (2, 2, 2, 3, 2), (0, 1, 2, 3, 4))
        self.assertEqual([sets for sets, parts, ways in levels(machine)], [[(0, 1, 2, 3, 4)], [(0, 1)], [(2, 3)]])
        self.assertIsNone(leads(machine, (0, 1), (2, 3)))
        self.assertIsNone(leads(machine, (2, 3), (0, 1)))

    def test_the_kinds(self):
        for machine in machines(3):
            told = levels(machine)
            self.assertIs(type(told), list)
            for level in told:
                self.assertIs(type(level), tuple)
                self.assertEqual([type(part) for part in level], [list, list, list])
                self.assertEqual({type(rooms) for rooms in level[0] + level[1]}, {tuple})
                self.assertEqual({type(way) for way in level[2]}, {list})

    def test_the_sets_and_the_order(self):
        turned_round = 0
        for machine in machines(20):
            told = [sets for sets, parts, ways in levels(machine)]
            self.assertEqual(told, slow_sets_of_levels(machine))
            faces = [sets[0] for sets in told]
            turned_round += faces != sorted(faces, key=set_place)
        self.assertGreater(turned_round, 20)

    def test_each_set_of_two_rooms_and_more_is_in_just_one(self):
        for machine in machines(20):
            found = sorted(rooms for sets, parts, ways in levels(machine) for rooms in sets)
            self.assertEqual(found, sorted(rooms for rooms in family(machine) if len(rooms) > 1))

    def test_the_face_is_ahead_and_the_first(self):
        for machine in machines(20):
            for sets, parts, ways in levels(machine):
                self.assertEqual(sets, sorted(sets, key=set_place))
                self.assertEqual({len(rooms) for rooms in sets}, {len(sets[0])})
                self.assertEqual(ways[0], [])

    def test_the_ways_are_the_least_words(self):
        for machine in machines(10):
            for sets, parts, ways in levels(machine):
                self.assertEqual(len(ways), len(sets))
                for rooms, way in zip(sets, ways):
                    self.assertEqual(slow_carried(machine, sets[0], way), rooms)
                    self.assertEqual(way, leads(machine, sets[0], rooms))

    def test_the_tiles_are_those_of_the_face(self):
        for machine in machines(10):
            for sets, parts, ways in levels(machine):
                self.assertEqual(parts, tiles(machine, sets[0]))


class CarryAndTile(unittest.TestCase):
    def test_known_ones(self):
        level = levels(UP_AND_SWAP)[1]
        self.assertEqual(carry(UP_AND_SWAP, level, 0), (0, 2))
        self.assertEqual(carry(UP_AND_SWAP, level, 1), (1, 2))
        self.assertEqual([tile(UP_AND_SWAP, level, 1, j) for j in range(2)], [(1,), (2,)])
        level = levels(UP_AND_DOWN)[1]
        self.assertEqual([tile(UP_AND_DOWN, level, 1, j) for j in range(2)], [(1, 2, 3), (2, 3, 4)])

    def test_a_carry_that_does_not_rise(self):
        machine = ((2, 1, 0), (0, 1, 0), (0, 2, 1))
        level = levels(machine)[1]
        self.assertEqual(level, ([(0, 1), (0, 2), (1, 2)], [(0,), (1,)], [[], [2], [0]]))
        self.assertEqual([carry(machine, level, k) for k in range(3)], [(0, 1), (0, 2), (2, 1)])
        self.assertEqual([tile(machine, level, 2, j) for j in range(2)], [(2,), (1,)])

    def test_the_carry_has_each_room_of_the_set_once(self):
        for machine in machines(10):
            for level in levels(machine):
                for k, rooms in enumerate(level[0]):
                    told = carry(machine, level, k)
                    self.assertIs(type(told), tuple)
                    self.assertEqual(told, tuple(slow_led(machine, room, level[2][k]) for room in level[0][0]))
                    self.assertEqual(tuple(sorted(told)), rooms)

    def test_the_tiles_by_the_way_are_just_those_of_the_set(self):
        for machine in machines(10):
            for level in levels(machine):
                for k, rooms in enumerate(level[0]):
                    told = [tile(machine, level, k, j) for j in range(len(level[1]))]
                    self.assertEqual({type(part) for part in told}, {tuple})
                    self.assertEqual(told, [slow_carried(machine, part, level[2][k]) for part in level[1]])
                    self.assertEqual(sorted(told, key=set_place), tiles(machine, rooms))


class OwnLists(unittest.TestCase):
    def test_what_is_told_is_the_askers_own(self):
        for machine in machines(2):
            own_lists(self, levels, machine)
            for level in levels(machine):
                own_lists(self, carry, machine, level, len(level[0]) - 1)
                own_lists(self, tile, machine, level, len(level[0]) - 1, len(level[1]) - 1)

    def test_a_told_word_is_the_askers_own(self):
        for machine in drawn(4, 2, 5):
            for one, other in itertools.product(family(machine), repeat=2):
                own_lists(self, leads, machine, one, other)


if __name__ == "__main__":
    unittest.main()
