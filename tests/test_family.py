import unittest

from cascade.family import family, pictures, tiles
from samples import (
    EXCHANGES, FLAT, RING, UP_AND_DOWN, UP_AND_SWAP, machines, own_lists, slow_carried, word_place, words,
)


def set_place(rooms):
    return (-len(rooms), rooms)


def slow_family(machine):
    """All sets that come up from all rooms by letters until no more do, and each room alone."""
    found = {tuple(range(len(machine[0])))}
    while True:
        more = found | {slow_carried(machine, rooms, [letter]) for rooms in found for letter in range(len(machine))}
        if more == found:
            break
        found = more
    return sorted(found | {(room,) for room in range(len(machine[0]))}, key=set_place)


def slow_tiles(sets, rooms):
    inside = [frozenset(part) for part in sets if frozenset(part) < frozenset(rooms)]
    widest = [part for part in inside if not any(part < other for other in inside)]
    return sorted([tuple(sorted(part)) for part in widest], key=set_place)


class Pictures(unittest.TestCase):
    def test_known_ones(self):
        self.assertEqual(pictures(((0,),)), [((0,), [])])
        self.assertEqual(pictures(((1, 0), (0, 1))), [((0, 1), [])])
        self.assertEqual(pictures(((1, 1), (0, 0))), [((0, 1), []), ((1,), [0]), ((0,), [1])])
        self.assertEqual(pictures(UP_AND_SWAP), [((0, 1, 2), []), ((1, 2), [0]), ((2,), [0, 0]), ((0, 2), [0, 1])])

    def test_of_two_letters_the_lesser_is_in_the_word(self):
        self.assertEqual(pictures(((1, 1, 1), (1, 1, 1), (0, 0, 0))), [((0, 1, 2), []), ((1,), [0]), ((0,), [2])])

    def test_the_kinds(self):
        for machine in machines(3):
            told = pictures(machine)
            self.assertIs(type(told), list)
            for entry in told:
                self.assertEqual([type(part) for part in entry], [tuple, list])
                self.assertIs(type(entry), tuple)

    def test_all_rooms_with_no_letters_first(self):
        for machine in machines(20):
            self.assertEqual(pictures(machine)[0], (tuple(range(len(machine[0]))), []))

    def test_each_set_once_by_its_word(self):
        for machine in machines(20):
            told = pictures(machine)
            everywhere = tuple(range(len(machine[0])))
            self.assertEqual(len({rooms for rooms, word in told}), len(told))
            for rooms, word in told:
                self.assertEqual(slow_carried(machine, everywhere, word), rooms)

    def test_of_the_words_of_few_letters_none_is_ahead(self):
        for machine in machines(6):
            told = dict(pictures(machine))
            everywhere = tuple(range(len(machine[0])))
            for word in words(len(machine), 5 if len(machine) < 4 else 4):
                least = told[slow_carried(machine, everywhere, word)]
                self.assertLessEqual(word_place(least), word_place(word))

    def test_no_letter_behind_a_told_word_comes_ahead_of_one(self):
        for machine in machines(20):
            told = dict(pictures(machine))
            for rooms, word in told.items():
                for letter in range(len(machine)):
                    least = told[slow_carried(machine, rooms, [letter])]
                    self.assertLessEqual(word_place(least), word_place(word + [letter]))

    def test_the_words_rise(self):
        for machine in machines(20):
            places = [word_place(word) for rooms, word in pictures(machine)]
            self.assertTrue(all(one < other for one, other in zip(places, places[1:])))

    def test_each_letter_carries_each_to_one_of_them(self):
        for machine in machines(20):
            found = [rooms for rooms, word in pictures(machine)]
            for rooms in found:
                for letter in range(len(machine)):
                    self.assertIn(slow_carried(machine, rooms, [letter]), found)


class Family(unittest.TestCase):
    def test_one_room(self):
        self.assertEqual(family(((0,),)), [(0,)])
        self.assertEqual(family(((0,), (0,), (0,), (0,))), [(0,)])

    def test_letters_that_exchange_alone(self):
        for machine in (RING, EXCHANGES, ((4, 3, 2, 1, 0), (0, 1, 2, 3, 4))):
            self.assertEqual(family(machine), [(0, 1, 2, 3, 4), (0,), (1,), (2,), (3,), (4,)])

    def test_known_ones(self):
        self.assertEqual(family(((0, 0),)), [(0, 1), (0,), (1,)])
        self.assertEqual(family(UP_AND_SWAP), [(0, 1, 2), (0, 2), (1, 2), (0,), (1,), (2,)])
        self.assertEqual(family(FLAT), [(0, 1, 2, 3, 4), (0,), (1,), (2,), (3,), (4,)])
        self.assertEqual(family(UP_AND_DOWN), [
            (0, 1, 2, 3, 4), (0, 1, 2, 3), (1, 2, 3, 4), (0, 1, 2), (1, 2, 3), (2, 3, 4), (0, 1), (1, 2), (2, 3),
            (3, 4), (0,), (1,), (2,), (3,), (4,)])

    def test_pictures_and_single_rooms_each_once_in_their_order(self):
        for machine in machines(20):
            told = family(machine)
            self.assertIs(type(told), list)
            self.assertEqual(told, slow_family(machine))
            self.assertTrue({rooms for rooms, word in pictures(machine)} <= set(told))


class Tiles(unittest.TestCase):
    def test_two_rooms(self):
        self.assertEqual(tiles(((1, 0),), (0, 1)), [(0,), (1,)])
        self.assertEqual(tiles(UP_AND_SWAP, (0, 2)), [(0,), (2,)])

    def test_tiles_that_share_rooms(self):
        self.assertEqual(tiles(UP_AND_SWAP, (0, 1, 2)), [(0, 2), (1, 2)])
        self.assertEqual(tiles(UP_AND_DOWN, (0, 1, 2, 3, 4)), [(0, 1, 2, 3), (1, 2, 3, 4)])
        self.assertEqual(tiles(UP_AND_DOWN, (1, 2, 3)), [(1, 2), (2, 3)])

    def test_tiles_of_unlike_sizes(self):
        self.assertEqual(tiles(((1, 2, 2),), (0, 1, 2)), [(1, 2), (0,)])

    def test_ten_tiles(self):
        machine = ((1, 2, 3, 4, 0), (1, 0, 2, 3, 4), (0, 0, 0, 1, 1))
        pairs = [(one, other) for one in range(5) for other in range(one + 1, 5)]
        self.assertEqual(tiles(machine, (0, 1, 2, 3, 4)), pairs)

    def test_single_rooms_alone(self):
        self.assertEqual(tiles(EXCHANGES, (0, 1, 2, 3, 4)), [(0,), (1,), (2,), (3,), (4,)])

    def test_each_set_of_each_family(self):
        for machine in machines(20):
            sets = slow_family(machine)
            for rooms in sets:
                if len(rooms) > 1:
                    told = tiles(machine, rooms)
                    self.assertIs(type(told), list)
                    self.assertEqual(told, slow_tiles(sets, rooms))
                    self.assertEqual({room for part in told for room in part}, set(rooms))
                    for part in sets:
                        if set(part) < set(rooms):
                            self.assertTrue(any(set(part) <= set(tile) for tile in told))


class OwnLists(unittest.TestCase):
    def test_what_is_told_is_the_askers_own(self):
        for machine in machines(3):
            own_lists(self, pictures, machine)
            own_lists(self, family, machine)
            for rooms in slow_family(machine):
                if len(rooms) > 1:
                    own_lists(self, tiles, machine, rooms)


if __name__ == "__main__":
    unittest.main()
