import unittest

from recut.errors import CutError, Crossed, NoNumber, Odd


class ErrorsTest(unittest.TestCase):
    def test_cut_error_stands_straight_under_value_error(self):
        self.assertEqual(CutError.__bases__, (ValueError,))

    def test_the_others_stand_straight_under_cut_error(self):
        for kind in (NoNumber, Crossed, Odd):
            with self.subTest(kind=kind.__name__):
                self.assertEqual(kind.__bases__, (CutError,))

    def test_none_stands_under_another(self):
        kinds = (NoNumber, Crossed, Odd)
        for one in kinds:
            for other in kinds:
                self.assertEqual(issubclass(one, other), one is other)

    def test_crossed_keeps_its_column(self):
        for column in (0, 7, -7, 10 ** 60 + 1):
            self.assertEqual(Crossed(column).column, column)

    def test_odd_keeps_its_number(self):
        for number in (0, 3, 10 ** 60 + 1):
            self.assertEqual(Odd(number).number, number)

    def test_each_object_has_a_value_of_its_own(self):
        first = Crossed(1)
        second = Crossed(2)
        self.assertEqual((first.column, second.column), (1, 2))

    def test_all_can_be_raised_and_caught_as_any_refusal(self):
        for error in (NoNumber(), Crossed(3), Odd(4)):
            for kind in (type(error), CutError, ValueError):
                with self.assertRaises(kind):
                    raise error

    def test_words_can_be_told_of_numbers_too_long_to_be_written(self):
        for error in (Crossed(10 ** 5000), Odd(10 ** 5000)):
            self.assertIsInstance(str(error), str)


if __name__ == "__main__":
    unittest.main()
