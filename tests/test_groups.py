import inspect
import unittest

from cascade.errors import HallError, NoMachine, NoName, NoRow, NoText, TooMany
from cascade.groups import groups
from cascade.monoid import all_turns
from samples import (
    EVERY_TURN_OF_FOUR, EXCHANGES, FLAT, RING, TURNS_399, TURNS_400, TURNS_401, TURNS_3125, UP_AND_DOWN, UP_AND_SWAP,
    drawn, machines, own_lists, slow_behind,
)

MANY = 5 ** 5


def slow_powers(turn):
    """The powers from 1 on, far enough for each to have come, with the still turn ahead of them."""
    powers = [tuple(range(len(turn)))]
    for number in range(70):
        powers.append(slow_behind(powers[-1], turn))
    return powers


def slow_bears_itself(turn):
    powers = slow_powers(turn)
    return powers[0] in powers[1:] or powers[1] in powers[2:]


def slow_groups(machine):
    turns = [turn for turn, word in all_turns(machine, MANY)]
    powers = {turn: set(slow_powers(turn)[1:]) for turn in turns}
    bearing = [number for number, turn in enumerate(turns) if slow_bears_itself(turn)]
    doubles = [turn for turn in turns if slow_behind(turn, turn) == turn]
    return [[number for number in bearing if turn in powers[turns[number]]] for turn in doubles]


class Groups(unittest.TestCase):
    def test_known_ones(self):
        self.assertEqual(groups(((0,),)), [[0]])
        self.assertEqual(groups(((0, 1), (0, 1))), [[0]])
        self.assertEqual(groups(((1, 0),)), [[0, 1]])
        self.assertEqual(groups(RING), [[0, 1, 2, 3, 4]])
        self.assertEqual(groups(EXCHANGES), [list(range(120))])
        self.assertEqual(groups(FLAT), [[0], [1], [2]])
        self.assertEqual(groups(((1, 2, 3, 4, 4),)), [[0], [4]])
        self.assertEqual(groups(((1, 0), (0, 0))), [[0, 1], [2], [3]])

    def test_a_turn_that_does_not_bear_itself_is_in_none(self):
        self.assertEqual(groups(((1, 2, 1),)), [[0], [1, 2]])
        self.assertEqual(groups(((1, 2, 3, 2),)), [[0], [2, 3]])
        self.assertEqual(groups(UP_AND_SWAP), [[0, 2], [3], [4], [5]])

    def test_against_the_words_of_the_promise(self):
        for machine in machines(3):
            if machine != TURNS_3125:
                told = groups(machine, MANY)
                self.assertIs(type(told), list)
                self.assertEqual({type(found) for found in told}, {list})
                self.assertEqual(told, slow_groups(machine))

    def test_each_list_holds_with_two_turns_the_one_behind_the_other(self):
        for machine in machines(2):
            turns = [turn for turn, word in all_turns(machine, MANY)]
            for found in groups(machine, MANY):
                held = {turns[number] for number in found}
                middle = [turn for turn in held if slow_behind(turn, turn) == turn]
                self.assertEqual(len(middle), 1)
                for one in held:
                    self.assertTrue(all(slow_behind(one, other) in held for other in held))
                    self.assertIn(middle[0], {slow_behind(one, other) for other in held})

    def test_each_turn_that_bears_itself_is_in_just_one(self):
        for machine in machines(4):
            turns = [turn for turn, word in all_turns(machine, MANY)]
            held = sorted(number for found in groups(machine, MANY) for number in found)
            self.assertEqual(held, [number for number, turn in enumerate(turns) if slow_bears_itself(turn)])

    def test_the_order_of_the_lists_and_the_rising_numbers(self):
        for machine in machines(4):
            turns = [turn for turn, word in all_turns(machine, MANY)]
            middles = []
            for found in groups(machine, MANY):
                self.assertEqual(found, sorted(set(found)))
                middles += [number for number in found if slow_behind(turns[number], turns[number]) == turns[number]]
            self.assertEqual(middles, sorted(middles))
            self.assertEqual(middles[0], 0)

    def test_a_list_whose_least_number_comes_behind_another_lists(self):
        # The order is that of the turns for which the lists are told, not of the least numbers.
        told = [groups(machine, MANY) for machine in drawn(4, 2, 60)]
        self.assertTrue(any([found[0] for found in one] != sorted(found[0] for found in one) for one in told))


class Refused(unittest.TestCase):
    def refused(self, most, *handed):
        with self.assertRaises(TooMany) as taken:
            groups(*handed)
        self.assertEqual(taken.exception.most, most)
        self.assertIsInstance(taken.exception, HallError)
        self.assertIsInstance(taken.exception, ValueError)
        self.assertNotIsInstance(taken.exception, (NoMachine, NoText, NoRow, NoName))

    def test_one_fewer_as_many_and_one_more(self):
        for machine in (((0,),), RING, FLAT, UP_AND_SWAP, UP_AND_DOWN, EVERY_TURN_OF_FOUR, EXCHANGES):
            count = len(all_turns(machine))
            self.refused(count - 1, machine, count - 1)
            self.assertEqual(groups(machine, count), groups(machine, count + 1))

    def test_most_left_out_is_400(self):
        self.assertEqual(groups(TURNS_399), slow_groups(TURNS_399))
        self.assertEqual(groups(TURNS_400), slow_groups(TURNS_400))
        self.refused(400, TURNS_401)
        self.refused(400, TURNS_3125)
        self.assertEqual(list(inspect.signature(groups).parameters), ["machine", "most"])
        self.assertEqual(inspect.signature(groups).parameters["most"].default, 400)


class OwnLists(unittest.TestCase):
    def test_what_is_told_is_the_askers_own(self):
        for machine in machines(2):
            own_lists(self, groups, machine, MANY)


if __name__ == "__main__":
    unittest.main()
