import itertools
import math
import unittest

from cascade.turns import behind, rest_of, still


def turns_of(count):
    return itertools.product(range(count), repeat=count)


def slow_rest(turn):
    """Straight from the words: the first power that comes again, and after how many it does."""
    powers = [tuple(range(len(turn)))]
    for number in range(200):
        powers.append(tuple(turn[thing] for thing in powers[-1]))
    for begin, power in enumerate(powers):
        if power in powers[begin + 1:]:
            return (begin, powers.index(power, begin + 1) - begin)
    raise AssertionError("no power comes again")


def rest_by_things(turn):
    """Another way: the longest way in of a thing, and the least number that all rounds of things part."""
    begin = 0
    rounds = 1
    for thing in range(len(turn)):
        way = [thing]
        while turn[way[-1]] not in way:
            way.append(turn[way[-1]])
        first = way.index(turn[way[-1]])
        begin = max(begin, first)
        rounds = math.lcm(rounds, len(way) - first)
    return (begin, rounds)


class Still(unittest.TestCase):
    def test_one_to_ten_things(self):
        self.assertEqual(still(1), (0,))
        self.assertEqual(still(2), (0, 1))
        self.assertEqual(still(5), (0, 1, 2, 3, 4))
        self.assertEqual(still(10), (0, 1, 2, 3, 4, 5, 6, 7, 8, 9))
        for count in range(1, 11):
            told = still(count)
            self.assertIs(type(told), tuple)
            self.assertEqual(len(told), count)
            self.assertTrue(all(told[thing] == thing for thing in range(count)))


class Behind(unittest.TestCase):
    def test_the_order_matters(self):
        swap = (1, 0, 2)
        drop = (0, 0, 1)
        self.assertEqual(behind(swap, drop), (0, 0, 1))
        self.assertEqual(behind(drop, swap), (1, 1, 0))

    def test_where_the_second_leads_from_where_the_first_does(self):
        for one in turns_of(3):
            for other in turns_of(3):
                told = behind(one, other)
                self.assertIs(type(told), tuple)
                self.assertEqual(told, (other[one[0]], other[one[1]], other[one[2]]))

    def test_the_still_turn_ahead_and_behind(self):
        for count in range(1, 6):
            rest = tuple(range(count))
            for turn in turns_of(count):
                self.assertEqual(behind(rest, turn), turn)
                self.assertEqual(behind(turn, rest), turn)

    def test_three_in_a_row(self):
        for one, other, third in itertools.product(list(turns_of(3)), repeat=3):
            self.assertEqual(behind(behind(one, other), third), behind(one, behind(other, third)))

    def test_ten_things(self):
        rise = (1, 2, 3, 4, 5, 6, 7, 8, 9, 9)
        back = (9, 8, 7, 6, 5, 4, 3, 2, 1, 0)
        self.assertEqual(behind(rise, back), (8, 7, 6, 5, 4, 3, 2, 1, 0, 0))
        self.assertEqual(behind(back, rise), (9, 9, 8, 7, 6, 5, 4, 3, 2, 1))
        self.assertEqual(behind(back, back), (0, 1, 2, 3, 4, 5, 6, 7, 8, 9))

    def test_what_was_handed_in_is_the_same(self):
        one = (1, 2, 2)
        other = (2, 0, 1)
        behind(one, other)
        self.assertEqual((one, other), ((1, 2, 2), (2, 0, 1)))
        self.assertEqual(behind(one, one), (2, 2, 2))
        self.assertEqual(one, (1, 2, 2))


class Rest(unittest.TestCase):
    def test_one_thing_alone(self):
        self.assertEqual(rest_of((0,)), (0, 1))

    def test_the_still_turn(self):
        for count in range(1, 11):
            self.assertEqual(rest_of(tuple(range(count))), (0, 1))

    def test_turns_that_exchange(self):
        self.assertEqual(rest_of((1, 0)), (0, 2))
        self.assertEqual(rest_of((1, 2, 0)), (0, 3))
        self.assertEqual(rest_of((1, 2, 3, 4, 0)), (0, 5))
        self.assertEqual(rest_of((1, 0, 3, 4, 2)), (0, 6))
        self.assertEqual(rest_of((1, 2, 3, 4, 5, 6, 7, 8, 9, 0)), (0, 10))

    def test_turns_that_bring_all_to_one(self):
        self.assertEqual(rest_of((0, 0)), (1, 1))
        self.assertEqual(rest_of((1, 1)), (1, 1))
        self.assertEqual(rest_of((3, 3, 3, 3, 3)), (1, 1))
        self.assertEqual(rest_of((7,) * 10), (1, 1))

    def test_a_way_in_that_comes_to_rest(self):
        self.assertEqual(rest_of((1, 2, 2)), (2, 1))
        self.assertEqual(rest_of((1, 2, 3, 4, 4)), (4, 1))
        self.assertEqual(rest_of((1, 2, 3, 4, 5, 6, 7, 8, 9, 9)), (9, 1))

    def test_a_way_in_ahead_of_a_round(self):
        self.assertEqual(rest_of((1, 2, 1)), (1, 2))
        self.assertEqual(rest_of((1, 2, 3, 4, 3)), (3, 2))
        self.assertEqual(rest_of((1, 2, 3, 4, 2)), (2, 3))
        self.assertEqual(rest_of((1, 2, 3, 4, 5, 6, 7, 8, 9, 5)), (5, 5))

    def test_rounds_of_unlike_lengths(self):
        self.assertEqual(rest_of((1, 0, 3, 4, 2, 6, 7, 8, 9, 5)), (0, 30))
        self.assertEqual(rest_of((1, 0, 3, 4, 2, 6, 7, 8, 5, 9)), (0, 12))
        self.assertEqual(rest_of((1, 2, 3, 0, 5, 6, 7, 8, 9, 4)), (0, 12))
        self.assertEqual(rest_of((1, 0, 3, 4, 2, 6, 7, 8, 8, 0)), (3, 6))
        self.assertEqual(rest_of((1, 0, 3, 4, 2, 0, 5, 6, 2, 8)), (3, 6))
        self.assertEqual(rest_of((1, 0, 3, 4, 5, 2, 2, 6, 7, 8)), (4, 4))

    def test_every_turn_of_up_to_five_things(self):
        for count in range(1, 6):
            for turn in turns_of(count):
                told = rest_of(turn)
                self.assertIs(type(told), tuple)
                self.assertEqual(told, slow_rest(turn), turn)
                self.assertLess(told[0], count)

    def test_many_turns_of_ten_things(self):
        for seed in range(500):
            turn = tuple((seed * (thing + 3) + seed * seed // (thing + 1) + 7 * thing) % 10 for thing in range(10))
            self.assertEqual(rest_of(turn), rest_by_things(turn), turn)

    def test_somewhat_more_than_ten_things(self):
        self.assertEqual(rest_of((1, 0, 3, 4, 2, 6, 7, 8, 9, 5, 11, 12, 13, 14, 15, 16, 10)), (0, 210))

    def test_what_was_handed_in_is_the_same(self):
        turn = (1, 2, 3, 4, 2)
        self.assertEqual([rest_of(turn), rest_of(turn)], [(2, 3), (2, 3)])
        self.assertEqual(turn, (1, 2, 3, 4, 2))


if __name__ == "__main__":
    unittest.main()
