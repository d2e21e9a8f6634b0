import copy
import itertools
import unittest

from cascade.errors import HallError, NoMachine, NoName, NoRow, NoText, TooMany
from cascade.machines import check, led, turn_of
from cascade.turns import behind, still

OTHER_REFUSALS = (TooMany, NoText, NoRow, NoName)

LET_BY = (
    ((0,),),
    ((0,), (0,), (0,), (0,)),
    ((0, 0),),
    ((1, 0), (0, 1)),
    ((1, 2, 0), (0, 0, 0), (2, 2, 1)),
    ((4, 3, 2, 1, 0),),
    ((1, 2, 3, 4, 0), (1, 0, 2, 3, 4), (0, 0, 2, 3, 4), (4, 4, 4, 4, 4)),
)

NONE_AT_ALL = (
    None, True, False, 0, 1, -7, 10 ** 60, 1.5, "", "0", "up: 1 2 2", b"\x00", {}, {0: (0,)}, [], [(0,)],
    [[0]], set(), frozenset(), range(1), object(), int, len, iter(()), ValueError("no"),
)

NO_MACHINES = (
    (),
    ((),),
    ((), ()),
    (0,),
    (0, 0),
    ("0",),
    ("",),
    (None,),
    ({0: 0},),
    ([0],),
    ([],),
    (range(1),),
    ([1, 0], [0, 1]),
    ((1, 0), [0, 1]),
    ([1, 0], (0, 1)),
    ((0,), "0"),
    ((0,), None),
    ((0,), 0),
    ((0,), (0,), (0,), (0,), (0,)),
    ((1, 0), (0, 1), (0, 0), (1, 1), (1, 0)),
    ((0, 0, 0, 0, 0, 0),),
    ((0, 1, 2, 3, 4, 5), (0, 1, 2, 3, 4, 5)),
    ((0, 0), (0,)),
    ((0,), (0, 0)),
    ((0,), ()),
    ((), (0,)),
    ((1, 0), (0, 1), (0, 1, 0)),
    ((0, 1, 2, 3, 4), (0, 1, 2, 3, 4), (0, 1, 2, 3, 4), (0, 1, 2, 3)),
)

WRONG_ROOMS = (
    -1, -2, 3, 4, 10 ** 60, -(10 ** 60), True, False, "0", "", "a", None, [], [0], (), (0,), {}, 0.0, 1.0, object(),
)


class Check(unittest.TestCase):
    def refused(self, thing):
        with self.assertRaises(NoMachine) as taken:
            check(thing)
        self.assertIsInstance(taken.exception, HallError)
        self.assertIsInstance(taken.exception, ValueError)
        self.assertNotIsInstance(taken.exception, OTHER_REFUSALS)

    def test_machines_are_let_by(self):
        for machine in LET_BY:
            self.assertIsNone(check(machine))

    def test_every_count_of_rooms_and_letters(self):
        for rooms in range(0, 8):
            for letters in range(0, 7):
                machine = (tuple(range(rooms)),) * letters
                if 1 <= rooms <= 5 and 1 <= letters <= 4:
                    self.assertIsNone(check(machine))
                else:
                    self.refused(machine)

    def test_every_machine_of_two_rooms_and_two_letters(self):
        turns = list(itertools.product(range(-1, 3), repeat=2))
        for machine in itertools.product(turns, repeat=2):
            if all(room in (0, 1) for turn in machine for room in turn):
                self.assertIsNone(check(machine))
            else:
                self.refused(machine)

    def test_what_is_no_tuple_is_refused(self):
        for thing in NONE_AT_ALL:
            self.refused(thing)

    def test_tuples_that_are_no_machines_are_refused(self):
        for thing in NO_MACHINES:
            self.refused(thing)

    def test_a_list_in_place_of_a_tuple_is_refused(self):
        for machine in LET_BY:
            self.refused(list(machine))
            for letter in range(len(machine)):
                self.refused(machine[:letter] + (list(machine[letter]),) + machine[letter + 1:])

    def test_a_wrong_room_is_refused_at_each_place(self):
        machine = ((1, 2, 0), (0, 0, 2))
        for wrong in WRONG_ROOMS:
            for letter in range(2):
                for room in range(3):
                    turn = machine[letter][:room] + (wrong,) + machine[letter][room + 1:]
                    self.refused(machine[:letter] + (turn,) + machine[letter + 1:])

    def test_as_many_as_the_count_of_rooms_is_no_room(self):
        for rooms in range(1, 6):
            self.assertIsNone(check(((rooms - 1,) * rooms,)))
            self.refused(((rooms,) * rooms,))
            self.refused((tuple(range(1, rooms + 1)),))

    def test_truths_are_no_rooms(self):
        self.refused(((False,),))
        self.refused(((0, True),))
        self.refused(((1, 0), (False, 1)))
        self.refused((True, False))

    def test_a_thing_within_itself_is_refused(self):
        knot = []
        knot.append(knot)
        self.refused(knot)
        self.refused((knot,))
        self.refused(((0, knot),))

    def test_let_by_behind_a_refusal_as_ahead_of_it(self):
        for machine in LET_BY:
            self.assertIsNone(check(machine))
            for thing in NO_MACHINES:
                self.refused(thing)
                self.assertIsNone(check(machine))

    def test_a_refused_thing_is_refused_again(self):
        for thing in NO_MACHINES:
            self.refused(thing)
            self.refused(thing)

    def test_what_was_handed_in_is_the_same(self):
        for thing in LET_BY + NO_MACHINES + ([(0,)], [[1, 0], [0, 1]], {0: (0,)}):
            before = copy.deepcopy(thing)
            try:
                check(thing)
            except NoMachine:
                pass
            self.assertEqual(thing, before)


UP_AND_SWAP = ((1, 2, 2), (1, 0, 2))
WORD_MACHINES = LET_BY + (UP_AND_SWAP,)


def words(letters, longest):
    for length in range(longest + 1):
        for word in itertools.product(range(letters), repeat=length):
            yield list(word)


class Led(unittest.TestCase):
    def test_no_letters(self):
        for machine in WORD_MACHINES:
            for room in range(len(machine[0])):
                self.assertEqual(led(machine, room, []), room)

    def test_one_letter(self):
        for machine in WORD_MACHINES:
            for letter, turn in enumerate(machine):
                for room in range(len(turn)):
                    self.assertEqual(led(machine, room, [letter]), turn[room])

    def test_the_letters_go_from_the_first_on(self):
        self.assertEqual([led(UP_AND_SWAP, room, [0, 1]) for room in range(3)], [0, 2, 2])
        self.assertEqual([led(UP_AND_SWAP, room, [1, 0]) for room in range(3)], [2, 1, 2])

    def test_words_of_400_letters(self):
        ring = ((1, 2, 3, 4, 0), (0, 1, 2, 3, 4), (4, 0, 1, 2, 3))
        for room in range(5):
            self.assertEqual(led(ring, room, [0] * 400), room)
            self.assertEqual(led(ring, room, [0] * 399 + [1]), (room + 399) % 5)
            self.assertEqual(led(ring, room, [0] * 150 + [1] * 99 + [2] * 151), (room - 1) % 5)
            self.assertEqual(led(ring, room, [0, 0, 2, 1] * 100), room)

    def test_a_long_word_that_ends_by_bringing_all_to_one(self):
        machine = ((1, 2, 3, 4, 0), (3, 3, 3, 3, 3))
        for room in range(5):
            self.assertEqual(led(machine, room, [0] * 399 + [1]), 3)
            self.assertEqual(led(machine, room, [1] + [0] * 399), 2)

    def test_what_was_handed_in_is_the_same(self):
        word = [0, 1, 0]
        machine = ((1, 2, 2), (1, 0, 2))
        self.assertEqual(led(machine, 0, word), 1)
        self.assertEqual((word, machine), ([0, 1, 0], ((1, 2, 2), (1, 0, 2))))
        self.assertEqual(led(machine, 0, word), 1)


class TurnOf(unittest.TestCase):
    def test_no_letters_is_the_still_turn(self):
        for machine in WORD_MACHINES:
            self.assertEqual(turn_of(machine, []), still(len(machine[0])))

    def test_one_letter_is_its_turn(self):
        for machine in WORD_MACHINES:
            for letter, turn in enumerate(machine):
                self.assertEqual(turn_of(machine, [letter]), turn)

    def test_known_words(self):
        self.assertEqual(turn_of(UP_AND_SWAP, [0, 1]), (0, 2, 2))
        self.assertEqual(turn_of(UP_AND_SWAP, [1, 0]), (2, 1, 2))
        self.assertEqual(turn_of(UP_AND_SWAP, [1, 1]), (0, 1, 2))
        self.assertEqual(turn_of(UP_AND_SWAP, [0, 0]), (2, 2, 2))

    def test_the_rooms_to_which_the_word_leads(self):
        for machine in WORD_MACHINES:
            for word in words(len(machine), 4):
                told = turn_of(machine, word)
                self.assertIs(type(told), tuple)
                self.assertEqual(told, tuple(led(machine, room, word) for room in range(len(machine[0]))))

    def test_two_parts_put_together(self):
        for machine in WORD_MACHINES:
            for one in words(len(machine), 2):
                for other in words(len(machine), 2):
                    parts = behind(turn_of(machine, one), turn_of(machine, other))
                    self.assertEqual(turn_of(machine, one + other), parts)

    def test_words_of_400_letters(self):
        machine = ((1, 2, 3, 4, 0), (1, 0, 2, 3, 4))
        self.assertEqual(turn_of(machine, [0] * 400), (0, 1, 2, 3, 4))
        self.assertEqual(turn_of(machine, [0] * 399 + [1]), (4, 1, 0, 2, 3))
        self.assertEqual(turn_of(machine, [1] + [0] * 399), (0, 4, 1, 2, 3))
        self.assertEqual(turn_of(machine, [0, 1] * 200), (0, 1, 2, 3, 4))

    def test_what_was_handed_in_is_the_same(self):
        word = [0, 1, 0, 0]
        machine = ((1, 2, 0), (1, 0, 2))
        first = turn_of(machine, word)
        self.assertEqual((word, machine), ([0, 1, 0, 0], ((1, 2, 0), (1, 0, 2))))
        word.append(1)
        self.assertEqual(turn_of(machine, word[:4]), first)


if __name__ == "__main__":
    unittest.main()
