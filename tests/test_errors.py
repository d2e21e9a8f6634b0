import unittest

from cascade.errors import HallError, NoMachine, NoName, NoRow, NoText, TooMany

MADE = (NoMachine("no"), TooMany(3), NoText("no"), NoRow("no"), NoName("no"))


class Errors(unittest.TestCase):
    def test_the_refusal_of_all_is_a_value_error(self):
        self.assertTrue(issubclass(HallError, ValueError))
        self.assertEqual(HallError.__bases__, (ValueError,))

    def test_each_refusal_is_a_hall_error_and_none_of_the_others(self):
        kinds = [type(error) for error in MADE]
        for error in MADE:
            self.assertIsInstance(error, HallError)
            self.assertIsInstance(error, ValueError)
            self.assertEqual([kind for kind in kinds if isinstance(error, kind)], [type(error)])

    def test_a_hall_error_is_none_of_the_single_refusals(self):
        self.assertNotIsInstance(HallError("no"), tuple(type(error) for error in MADE))

    def test_each_is_taken_as_a_hall_error(self):
        for error in MADE:
            with self.assertRaises(HallError) as taken:
                raise error
            self.assertIs(taken.exception, error)

    def test_too_many_keeps_most(self):
        for most in (1, 2, 400, 10 ** 60 - 1):
            error = TooMany(most)
            self.assertEqual(error.most, most)
            self.assertIs(type(error.most), int)

    def test_two_of_them_keep_their_own_most(self):
        one = TooMany(5)
        other = TooMany(7)
        self.assertEqual((one.most, other.most), (5, 7))


if __name__ == "__main__":
    unittest.main()
