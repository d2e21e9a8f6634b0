import unittest

from cascade.covers import covers
from cascade.family import tiles
from cascade.levels import levels
from samples import EXCHANGES, FLAT, UP_AND_DOWN, UP_AND_SWAP, machines, own_lists, slow_carried


def set_place(rooms):
    return (-len(rooms), rooms)


def slow_covers(machine):
    told = [[tuple(range(len(machine[0])))]]
    for sets, parts, ways in levels(machine):
        stay = {rooms for rooms in told[-1] if rooms not in sets}
        part = {tile for rooms in told[-1] if rooms in sets for tile in tiles(machine, rooms)}
        told.append(sorted(stay | part, key=set_place))
    return told


class Covers(unittest.TestCase):
    def test_one_room(self):
        self.assertEqual(covers(((0,),)), [[(0,)]])
        self.assertEqual(covers(((0,), (0,), (0,), (0,))), [[(0,)]])

    def test_known_ones(self):
        single = [(0,), (1,), (2,), (3,), (4,)]
        self.assertEqual(covers(EXCHANGES), [[(0, 1, 2, 3, 4)], single])
        self.assertEqual(covers(FLAT), [[(0, 1, 2, 3, 4)], single])
        self.assertEqual(covers(UP_AND_SWAP), [[(0, 1, 2)], [(0, 2), (1, 2)], [(0,), (1,), (2,)]])
        self.assertEqual(covers(UP_AND_DOWN), [
            [(0, 1, 2, 3, 4)], [(0, 1, 2, 3), (1, 2, 3, 4)], [(0, 1, 2), (1, 2, 3), (2, 3, 4)],
            [(0, 1), (1, 2), (2, 3), (3, 4)], single])

    def test_sets_of_unlike_sizes(self):
        self.assertEqual(covers(((1, 2, 2),)), [[(0, 1, 2)], [(1, 2), (0,)], [(0,), (1,), (2,)]])

    def test_level_by_level(self):
        for machine in machines(20):
            told = covers(machine)
            self.assertEqual(len(told), len(levels(machine)) + 1)
            self.assertEqual({type(told)} | {type(cover) for cover in told}, {list})
            self.assertEqual({type(rooms) for cover in told for rooms in cover}, {tuple})
            self.assertEqual(told, slow_covers(machine))

    def test_the_first_and_the_last(self):
        for machine in machines(20):
            told = covers(machine)
            count = len(machine[0])
            self.assertEqual(told[0], [tuple(range(count))])
            self.assertEqual(told[-1], [(room,) for room in range(count)])

    def test_the_sets_of_each_have_all_rooms(self):
        for machine in machines(20):
            for cover in covers(machine):
                self.assertEqual({room for rooms in cover for room in rooms}, set(range(len(machine[0]))))
                self.assertEqual(len(set(cover)), len(cover))

    def test_each_letter_carries_each_into_one_of_the_same(self):
        for machine in machines(10):
            for cover in covers(machine):
                for rooms in cover:
                    for letter in range(len(machine)):
                        there = set(slow_carried(machine, rooms, [letter]))
                        self.assertTrue(any(there <= set(other) for other in cover))


class OwnLists(unittest.TestCase):
    def test_what_is_told_is_the_askers_own(self):
        for machine in machines(3):
            own_lists(self, covers, machine)


if __name__ == "__main__":
    unittest.main()
