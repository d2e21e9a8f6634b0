import itertools
import unittest

from cascade.levels import levels, tile
from cascade.tilings import level_group, rests, tiles_turned
from samples import (
    EXCHANGES, FLAT, RING, UP_AND_DOWN, UP_AND_SWAP, machines, own_lists, slow_behind, slow_carried,
)

TEN_TILES = ((1, 2, 3, 4, 0), (1, 0, 2, 3, 4), (0, 0, 0, 1, 1))
# The way to the set (1, 2) leads from the face's rooms to 2 and 1, so its tiles are not numbered in their order.
ROUND_ABOUT = ((2, 1, 0), (0, 1, 0), (0, 2, 1))


def all_levels(count):
    for machine in machines(count):
        for level in levels(machine):
            yield machine, level


def slow_makers(machine, level):
    told = [tiles_turned(machine, level, k, letter) for k in range(len(level[0])) for letter in range(len(machine))]
    return {turn for turn in told if turn is not None}


def slow_group(machine, level):
    """The still turn and the makers, and behind each what is already there, until no more come."""
    makers = slow_makers(machine, level)
    found = makers | {tuple(range(len(level[1])))}
    wave = found
    while wave:
        wave = {slow_behind(maker, turn) for maker in makers for turn in wave} - found
        found = found | wave
    return sorted(found)


class TilesTurned(unittest.TestCase):
    def test_out_of_the_level(self):
        top, low = levels(UP_AND_SWAP)
        self.assertIsNone(tiles_turned(UP_AND_SWAP, top, 0, 0))
        self.assertIsNone(tiles_turned(UP_AND_SWAP, low, 1, 0))
        self.assertIsNone(tiles_turned(FLAT, levels(FLAT)[0], 0, 0))

    def test_within_the_level(self):
        top, low = levels(UP_AND_SWAP)
        self.assertEqual(tiles_turned(UP_AND_SWAP, top, 0, 1), (1, 0))
        self.assertEqual(tiles_turned(UP_AND_SWAP, low, 0, 0), (0, 1))
        self.assertEqual(tiles_turned(UP_AND_SWAP, low, 0, 1), (0, 1))
        self.assertEqual(tiles_turned(UP_AND_SWAP, low, 1, 1), (0, 1))
        self.assertEqual(tiles_turned(RING, levels(RING)[0], 0, 0), (1, 2, 3, 4, 0))
        self.assertEqual(tiles_turned(FLAT, levels(FLAT)[0], 0, 2), (0, 1, 2, 3, 4))

    def test_the_ways_count_in(self):
        level = levels(ROUND_ABOUT)[1]
        self.assertEqual([tile(ROUND_ABOUT, level, 2, j) for j in range(2)], [(2,), (1,)])
        told = [[tiles_turned(ROUND_ABOUT, level, k, letter) for letter in range(3)] for k in range(3)]
        self.assertEqual(told, [[(0, 1), (0, 1), (0, 1)], [(1, 0), None, (0, 1)], [(0, 1), (0, 1), (1, 0)]])

    def test_ten_tiles(self):
        top = levels(TEN_TILES)[0]
        pairs = list(itertools.combinations(range(5), 2))
        self.assertEqual(top[1], pairs)
        ring = tuple(pairs.index(tuple(sorted(((one + 1) % 5, (other + 1) % 5)))) for one, other in pairs)
        self.assertEqual(tiles_turned(TEN_TILES, top, 0, 0), ring)
        self.assertIsNone(tiles_turned(TEN_TILES, top, 0, 2))

    def test_each_set_and_letter(self):
        for machine, level in all_levels(10):
            for k, letter in itertools.product(range(len(level[0])), range(len(machine))):
                told = tiles_turned(machine, level, k, letter)
                there = slow_carried(machine, level[0][k], [letter])
                self.assertEqual(told is None, there not in level[0])
                if told is not None:
                    m = level[0].index(there)
                    self.assertIs(type(told), tuple)
                    self.assertEqual(sorted(told), list(range(len(level[1]))))
                    for j, number in enumerate(told):
                        end = slow_carried(machine, tile(machine, level, k, j), [letter])
                        self.assertEqual(end, tile(machine, level, m, number))


class LevelGroup(unittest.TestCase):
    def test_known_ones(self):
        self.assertEqual(level_group(RING, levels(RING)[0]), [
            (0, 1, 2, 3, 4), (1, 2, 3, 4, 0), (2, 3, 4, 0, 1), (3, 4, 0, 1, 2), (4, 0, 1, 2, 3)])
        self.assertEqual(level_group(EXCHANGES, levels(EXCHANGES)[0]), list(itertools.permutations(range(5))))
        self.assertEqual(level_group(FLAT, levels(FLAT)[0]), [(0, 1, 2, 3, 4)])
        self.assertEqual([level_group(UP_AND_SWAP, level) for level in levels(UP_AND_SWAP)],
                         [[(0, 1), (1, 0)], [(0, 1)]])
        self.assertEqual(level_group(ROUND_ABOUT, levels(ROUND_ABOUT)[1]), [(0, 1), (1, 0)])
        self.assertEqual(level_group(((1, 1), (0, 0)), levels(((1, 1), (0, 0)))[0]), [(0, 1)])

    def test_ten_tiles(self):
        told = level_group(TEN_TILES, levels(TEN_TILES)[0])
        self.assertEqual(len(told), 120)
        self.assertEqual({len(turn) for turn in told}, {10})

    def test_all_that_come_of_the_tiles_turned(self):
        for machine, level in all_levels(10):
            told = level_group(machine, level)
            self.assertIs(type(told), list)
            self.assertEqual({type(turn) for turn in told}, {tuple})
            self.assertEqual(told, slow_group(machine, level))

    def test_the_still_one_is_the_first_and_each_is_there_once(self):
        for machine, level in all_levels(10):
            told = level_group(machine, level)
            self.assertEqual(told[0], tuple(range(len(level[1]))))
            self.assertEqual(told, sorted(set(told)))

    def test_it_is_a_group(self):
        for machine, level in all_levels(2):
            told = set(level_group(machine, level))
            for one in told:
                ends = {slow_behind(one, other) for other in told}
                self.assertEqual(ends, told)


class Rests(unittest.TestCase):
    def test_one_that_rests_and_one_that_does_not(self):
        top, low = levels(UP_AND_SWAP)
        self.assertIs(rests(UP_AND_SWAP, top), False)
        self.assertIs(rests(UP_AND_SWAP, low), True)

    def test_known_ones(self):
        self.assertEqual([rests(UP_AND_DOWN, level) for level in levels(UP_AND_DOWN)], [True] * 4)
        self.assertEqual([rests(RING, level) for level in levels(RING)], [False])
        self.assertEqual([rests(FLAT, level) for level in levels(FLAT)], [True])
        self.assertEqual([rests(ROUND_ABOUT, level) for level in levels(ROUND_ABOUT)], [False, False])

    def test_where_no_tiles_are_turned_but_by_the_still_one(self):
        for machine, level in all_levels(10):
            still = tuple(range(len(level[1])))
            self.assertIs(rests(machine, level), slow_makers(machine, level) <= {still})


class OwnLists(unittest.TestCase):
    def test_what_is_told_is_the_askers_own(self):
        for machine, level in all_levels(2):
            own_lists(self, level_group, machine, level)
            own_lists(self, tiles_turned, machine, level, len(level[0]) - 1, len(machine) - 1)
            own_lists(self, rests, machine, level)


if __name__ == "__main__":
    unittest.main()
