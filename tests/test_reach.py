import unittest

from cascade.errors import TooMany
from cascade.reach import reached


class Reached(unittest.TestCase):
    def ring(self, thing, letter):
        return (thing + (1, 3)[letter]) % 7

    def test_each_thing_with_its_least_word_in_the_order_of_the_words(self):
        told = reached(0, 2, self.ring)
        self.assertEqual(list(told.items()), [(0, []), (1, [0]), (3, [1]), (2, [0, 0]), (4, [0, 1]), (6, [1, 1]),
                                              (5, [0, 0, 1])])

    def test_nothing_but_the_start(self):
        self.assertEqual(reached("here", 3, lambda thing, letter: thing), {"here": []})

    def test_most(self):
        for most in (7, 8, 400, None):
            self.assertEqual(len(reached(0, 2, self.ring, most)), 7)
        for most in range(7):
            with self.assertRaises(TooMany) as taken:
                reached(0, 2, self.ring, most)
            self.assertEqual(taken.exception.most, most)

    def test_more_without_end_is_refused_too(self):
        with self.assertRaises(TooMany):
            reached(0, 1, lambda thing, letter: thing + 1, 50)


if __name__ == "__main__":
    unittest.main()
