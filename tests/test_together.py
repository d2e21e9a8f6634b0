import unittest

from cascade.errors import HallError, NoMachine, NoName, NoRow, NoText, TooMany
from cascade.rows import Row
from cascade.together import together
from samples import (
    EXCHANGES, FLAT, KNOWN, RING, TURNS_3125, UP_AND_SWAP, in_order_of_words, machines, own_lists,
    slow_led, slow_words,
)

# Machines, rooms and counts of rows of rooms that lie about the most that is told where none is told.
ROWS = (
    (((1, 3, 2, 4, 3), (0, 2, 4, 4, 1)), 4, 399),
    (((2, 0, 0, 3), (1, 1, 0, 3), (2, 1, 0, 0)), 2, 400),
    (((4, 2, 0, 4, 3), (4, 0, 1, 0, 0)), 2, 401),
)


def put_together(count, most=300):
    """Machines with their rooms, and with what is told of them where there are at most so many rows of rooms."""
    for machine in machines(count):
        for room in range(len(machine[0])):
            try:
                told = together(machine, room, most)
            except TooMany:
                continue
            yield machine, room, told


class Together(unittest.TestCase):
    def test_one_room(self):
        self.assertEqual(together(((0,),), 0), ([()], ((0,),)))
        self.assertEqual(together(((0,), (0,), (0,), (0,)), 0), ([()], ((0,), (0,), (0,), (0,))))

    def test_known_ones(self):
        self.assertEqual(together(((1, 0),), 0), ([(0, 0), (1, 0)], ((1, 0),)))
        self.assertEqual(together(((1, 0),), 1), ([(0, 1), (1, 1)], ((1, 0),)))
        self.assertEqual(together(((0, 1),), 1), ([(1,)], ((0,),)))
        self.assertEqual(together(RING, 3), ([(turn, 3) for turn in range(5)], ((1, 2, 3, 4, 0),)))
        self.assertEqual(together(FLAT, 4), ([(4,), (0,), (1,)], ((1, 1, 1), (2, 2, 2), (0, 1, 2))))
        self.assertEqual(together(UP_AND_SWAP, 0), (
            [(0, 0, 0), (0, 1, 0), (1, 0, 0), (0, 1, 1), (1, 1, 0), (1, 0, 1), (1, 1, 1), (0, 0, 1)],
            ((1, 3, 5, 3, 2, 5, 5, 3), (2, 4, 0, 6, 1, 7, 3, 5))))
        self.assertEqual(together(((1, 2, 2),), 0), ([(1, 0), (0, 0), (0, 1)], ((1, 2, 2),)))

    def test_kinds(self):
        for machine, room, told in put_together(2):
            self.assertEqual([type(part) for part in (told, told[0], told[1])], [tuple, list, tuple])
            self.assertEqual({type(rooms) for rooms in told[0]}, {tuple})
            self.assertEqual({type(turn) for turn in told[1]}, {tuple})
            self.assertEqual({type(number) for turn in told[1] for number in turn}, {int})

    def test_the_first_row_is_that_of_the_room(self):
        for machine, room, told in put_together(3):
            self.assertEqual(told[0][0], Row(machine).row_of(room))

    def test_each_row_once_in_the_order_of_the_least_words(self):
        for machine, room, told in put_together(3):
            row = Row(machine)
            found = slow_words(row.row_of(room), len(machine), row.moved)
            self.assertEqual(told[0], in_order_of_words(found))

    def test_the_numbers_lead_as_the_letters_move(self):
        for machine, room, told in put_together(3):
            rows, turns = told
            row = Row(machine)
            self.assertEqual(len(turns), len(machine))
            for letter, turn in enumerate(turns):
                self.assertEqual([rows[number] for number in turn], [row.moved(rooms, letter) for rooms in rows])

    def test_what_the_rows_tell(self):
        for machine, room, told in put_together(2):
            rows, turns = told
            row = Row(machine)
            word = [place % len(machine) for place in range(40)]
            self.assertEqual(row.told(rows[slow_led(turns, 0, word)]), slow_led(machine, room, word))


class Refused(unittest.TestCase):
    def refused(self, most, ask, *handed):
        with self.assertRaises(TooMany) as taken:
            ask(*handed)
        self.assertEqual(taken.exception.most, most)
        self.assertIsInstance(taken.exception, HallError)
        self.assertNotIsInstance(taken.exception, (NoMachine, NoText, NoRow, NoName))

    def test_one_fewer_as_many_and_one_more(self):
        for machine, room, told in put_together(2):
            count = len(told[0])
            self.assertEqual(together(machine, room, count), told)
            self.assertEqual(together(machine, room, count + 1), told)
            if count > 1:
                self.refused(count - 1, together, machine, room, count - 1)

    def test_a_most_of_one(self):
        self.assertEqual(together(((0, 1, 2),), 2, 1), ([(2,)], ((0,),)))
        self.refused(1, together, ((1, 0),), 0, 1)

    def test_most_left_out_is_400(self):
        self.assertEqual(len(together(EXCHANGES, 2)[0]), 120)
        self.refused(400, together, TURNS_3125, 0)
        for machine in KNOWN:
            for room in range(len(machine[0])):
                count = len(slow_rows(machine, room))
                if count <= 400:
                    self.assertEqual(len(together(machine, room)[0]), count)
                else:
                    self.refused(400, together, machine, room)

    def test_about_that_most(self):
        for machine, room, count in ROWS:
            self.assertEqual(len(slow_rows(machine, room)), count)
            self.assertEqual(len(together(machine, room, count)[0]), count)
            if count <= 400:
                self.assertEqual(len(together(machine, room)[0]), count)
            else:
                self.refused(400, together, machine, room)

    def test_most_by_its_name(self):
        self.assertEqual(together(machine=RING, room=0, most=5), together(RING, 0))
        self.refused(4, lambda: together(machine=RING, room=0, most=4))


def slow_rows(machine, room, most=401):
    """The rows of rooms, but no more of them than some more than most."""
    row = Row(machine)
    found = [row.row_of(room)]
    for rooms in found:
        for letter in range(len(machine)):
            end = row.moved(rooms, letter)
            if end not in found and len(found) <= most:
                found.append(end)
    return found


class OwnLists(unittest.TestCase):
    def test_what_is_told_is_the_askers_own(self):
        for machine, room, told in put_together(1):
            own_lists(self, together, machine, room, 300)


if __name__ == "__main__":
    unittest.main()
