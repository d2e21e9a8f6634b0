import copy
import itertools
import unittest

from cascade.sets import carried, in_order, is_ahead, turns_about
from samples import machines, slow_carried, slow_led, words


def sets_of(rooms):
    for count in range(rooms, 0, -1):
        yield from itertools.combinations(range(rooms), count)


class IsAhead(unittest.TestCase):
    def test_more_rooms_go_first(self):
        self.assertIs(is_ahead((3, 4), (0,)), True)
        self.assertIs(is_ahead((0,), (3, 4)), False)
        self.assertIs(is_ahead((2, 3, 4), (0, 1)), True)
        self.assertIs(is_ahead((0, 1, 2, 3, 4), (0, 1, 2, 3)), True)
        self.assertIs(is_ahead((0, 1, 2, 3), (0, 1, 2, 3, 4)), False)

    def test_of_as_many_the_lesser_room_where_they_first_differ(self):
        self.assertIs(is_ahead((0, 4), (1, 2)), True)
        self.assertIs(is_ahead((1, 2), (0, 4)), False)
        self.assertIs(is_ahead((0, 1, 4), (0, 2, 3)), True)
        self.assertIs(is_ahead((0, 2, 3), (0, 1, 4)), False)
        self.assertIs(is_ahead((0, 1, 2), (0, 1, 3)), True)
        self.assertIs(is_ahead((2,), (3,)), True)
        self.assertIs(is_ahead((3,), (2,)), False)

    def test_none_is_ahead_of_itself(self):
        for rooms in sets_of(5):
            self.assertIs(is_ahead(rooms, rooms), False)

    def test_all_sets_in_a_row(self):
        for count in range(1, 6):
            row = list(sets_of(count))
            for one, other in itertools.product(range(len(row)), repeat=2):
                self.assertIs(is_ahead(row[one], row[other]), one < other)

    def test_in_order_each_once(self):
        row = list(sets_of(4))
        handed = row[::-1] + row
        self.assertEqual(in_order(handed), row)
        self.assertEqual(handed, row[::-1] + row)
        self.assertEqual(in_order([]), [])


class Carried(unittest.TestCase):
    def test_no_letters(self):
        for machine in machines(5):
            for rooms in sets_of(len(machine[0])):
                told = carried(machine, rooms, [])
                self.assertIs(type(told), tuple)
                self.assertEqual(told, rooms)

    def test_one_letter(self):
        machine = ((1, 2, 2), (1, 0, 2), (2, 2, 0))
        self.assertEqual(carried(machine, (0, 1, 2), [0]), (1, 2))
        self.assertEqual(carried(machine, (1, 2), [0]), (2,))
        self.assertEqual(carried(machine, (0, 1), [1]), (0, 1))
        self.assertEqual(carried(machine, (1, 2), [1]), (0, 2))
        self.assertEqual(carried(machine, (0, 1, 2), [2]), (0, 2))
        self.assertEqual(carried(machine, (0, 1), [2]), (2,))
        self.assertEqual(carried(machine, (2,), [2]), (0,))

    def test_the_letters_go_from_the_first_on(self):
        machine = ((1, 2, 2), (1, 0, 2))
        self.assertEqual(carried(machine, (0, 1), [0, 1]), (0, 2))
        self.assertEqual(carried(machine, (0, 1), [1, 0]), (1, 2))

    def test_words_of_few_letters(self):
        for machine in machines(3):
            for word in words(len(machine), 3):
                for rooms in sets_of(len(machine[0])):
                    self.assertEqual(carried(machine, rooms, word), slow_carried(machine, rooms, word))

    def test_words_of_400_letters(self):
        machine = ((1, 2, 3, 4, 0), (1, 0, 2, 3, 4), (0, 0, 2, 3, 4))
        self.assertEqual(carried(machine, (0, 1, 3), [0] * 400), (0, 1, 3))
        self.assertEqual(carried(machine, (0, 1, 3), [0] * 399 + [1]), (1, 2, 4))
        self.assertEqual(carried(machine, (0, 1, 2, 3, 4), [0] * 399 + [2]), (0, 2, 3, 4))
        self.assertEqual(carried(machine, (0, 1, 2, 3, 4), [2, 0] * 200), (1,))

    def test_what_was_handed_in_is_the_same(self):
        handed = (((1, 2, 2), (1, 0, 2)), (0, 1), [1, 0])
        kept = copy.deepcopy(handed)
        self.assertEqual([carried(*handed), carried(*handed)], [(1, 2), (1, 2)])
        self.assertEqual([turns_about(*handed), turns_about(*handed)], [False, False])
        self.assertEqual(handed, kept)


class TurnsAbout(unittest.TestCase):
    machine = ((1, 2, 2), (1, 0, 2))

    def test_no_letters_turn_nothing_about(self):
        for machine in machines(5):
            for rooms in sets_of(len(machine[0])):
                self.assertIs(turns_about(machine, rooms, []), False)

    def test_to_itself_with_each_room_staying(self):
        self.assertIs(turns_about(self.machine, (2,), [0]), False)
        self.assertIs(turns_about(self.machine, (2,), [1]), False)
        self.assertIs(turns_about(self.machine, (0, 1, 2), [1, 1]), False)
        self.assertIs(turns_about(self.machine, (0, 2), [0, 1]), False)

    def test_to_itself_with_some_room_led_to_another(self):
        self.assertIs(turns_about(self.machine, (0, 1), [1]), True)
        self.assertIs(turns_about(self.machine, (0, 1, 2), [1]), True)
        self.assertIs(turns_about(self.machine, (0, 1), [1, 1, 1]), True)
        self.assertIs(turns_about(((1, 2, 0),), (0, 1, 2), [0]), True)
        self.assertIs(turns_about(((0, 2, 1, 4, 3),), (0, 1, 2), [0]), True)

    def test_elsewhere(self):
        self.assertIs(turns_about(self.machine, (0, 1), [0]), False)
        self.assertIs(turns_about(self.machine, (1, 2), [1]), False)
        self.assertIs(turns_about(self.machine, (0,), [1]), False)
        self.assertIs(turns_about(self.machine, (0, 1, 2), [0]), False)

    def test_into_itself_but_not_to_all_of_it(self):
        self.assertIs(turns_about(self.machine, (1, 2), [0]), False)
        self.assertIs(turns_about(((1, 1),), (0, 1), [0]), False)

    def test_words_of_400_letters(self):
        machine = ((1, 2, 3, 4, 0), (1, 0, 2, 3, 4))
        everywhere = (0, 1, 2, 3, 4)
        self.assertIs(turns_about(machine, everywhere, [0] * 400), False)
        self.assertIs(turns_about(machine, everywhere, [0] * 399 + [1]), True)
        self.assertIs(turns_about(machine, (0, 1), [1] * 400), False)
        self.assertIs(turns_about(machine, (0, 1), [1] * 395 + [0] * 5), True)
        self.assertIs(turns_about(machine, (0, 1), [1] * 396 + [0] * 4), False)

    def test_words_of_few_letters(self):
        for machine in machines(3):
            for word in words(len(machine), 3):
                for rooms in sets_of(len(machine[0])):
                    ends = [slow_led(machine, room, word) for room in rooms]
                    about = sorted(ends) == list(rooms) and ends != list(rooms)
                    self.assertIs(turns_about(machine, rooms, word), about)


if __name__ == "__main__":
    unittest.main()
