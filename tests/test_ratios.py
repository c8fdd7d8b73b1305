import unittest
from fractions import Fraction
from math import floor, gcd

from recut.errors import CutError, Crossed, NoNumber, Odd
from recut.ratios import below, floor_of, minus, over, plus, ratio, times

BIG = 10 ** 60 + 7
BIGGER = 3 * 10 ** 75 + 1
SMALL = [(top, bottom) for bottom in range(1, 7) for top in range(-8, 9) if gcd(top, bottom) == 1]
GREAT = [(BIG, BIGGER), (-BIG, 6), (5, BIGGER), (-BIGGER, BIG), (2 ** 300, 3 ** 200)]
ALL = SMALL + GREAT


def told(value):
    return (value.numerator, value.denominator)


class RatiosTest(unittest.TestCase):
    def check(self, answer, value):
        self.assertIs(type(answer), tuple)
        self.assertEqual([type(part) for part in answer], [int, int])
        self.assertEqual(answer, told(value))

    def check_refused(self, call, *values):
        with self.assertRaises(NoNumber) as caught:
            call(*values)
        self.assertIsInstance(caught.exception, CutError)
        self.assertIsInstance(caught.exception, ValueError)
        self.assertNotIsInstance(caught.exception, (Crossed, Odd))

    def test_written_fractions(self):
        for top, bottom, answer in (
            (1, 2, (1, 2)), (6, 4, (3, 2)), (-6, 4, (-3, 2)), (6, -4, (-3, 2)), (-6, -4, (3, 2)),
            (0, 5, (0, 1)), (0, -5, (0, 1)), (5, 1, (5, 1)), (5, -1, (-5, 1)), (12, 4, (3, 1)), (-12, -4, (3, 1)),
        ):
            self.assertEqual(ratio(top, bottom), answer)

    def test_all_small_tops_and_bottoms(self):
        for top in range(-24, 25):
            for bottom in range(-24, 25):
                if bottom != 0:
                    self.check(ratio(top, bottom), Fraction(top, bottom))

    def test_many_figures(self):
        for top in (BIG, -BIG, BIG * BIGGER, 6 * BIG, 0):
            for bottom in (BIG, -BIG, BIGGER, -4 * BIG, BIG * BIGGER):
                self.check(ratio(top, bottom), Fraction(top, bottom))
        self.assertEqual(ratio(BIG * 10 ** 3000, -BIG * 10 ** 2999), (-10, 1))

    def test_a_long_way_to_lowest_terms(self):
        one = 1
        other = 1
        for step in range(5000):
            one, other = other, one + other
        self.assertEqual(ratio(6 * one, 6 * other), (one, other))

    def test_bottom_of_nought_is_refused(self):
        for top in (0, 1, -1, BIG):
            self.check_refused(ratio, top, 0)

    def test_sums_differences_and_products(self):
        for one in ALL:
            for other in ALL:
                first = Fraction(*one)
                second = Fraction(*other)
                self.check(plus(one, other), first + second)
                self.check(minus(one, other), first - second)
                self.check(times(one, other), first * second)

    def test_quotients(self):
        for one in ALL:
            for other in ALL:
                if other[0] != 0:
                    self.check(over(one, other), Fraction(*one) / Fraction(*other))

    def test_written_answers(self):
        self.assertEqual(plus((1, 6), (1, 3)), (1, 2))
        self.assertEqual(minus((1, 6), (2, 3)), (-1, 2))
        self.assertEqual(minus((1, 6), (1, 6)), (0, 1))
        self.assertEqual(times((2, 3), (-3, 4)), (-1, 2))
        self.assertEqual(times((0, 1), (-3, 4)), (0, 1))
        self.assertEqual(over((1, 2), (-3, 4)), (-2, 3))
        self.assertEqual(over((0, 1), (-3, 4)), (0, 1))

    def test_quotient_by_nought_is_refused(self):
        for one in ((0, 1), (1, 2), (-5, 3), (BIG, 2)):
            self.check_refused(over, one, (0, 1))

    def test_below(self):
        for one in ALL:
            for other in ALL:
                self.assertIs(below(one, other), Fraction(*one) < Fraction(*other))

    def test_below_of_like_fractions(self):
        for one in ALL:
            self.assertIs(below(one, one), False)

    def test_below_of_near_ones(self):
        self.assertIs(below((BIG, BIG + 1), (BIG + 1, BIG + 2)), True)
        self.assertIs(below((BIG + 1, BIG + 2), (BIG, BIG + 1)), False)

    def test_floor(self):
        for one, answer in (
            ((7, 2), 3), ((-7, 2), -4), ((-1, 3), -1), ((1, 3), 0), ((0, 1), 0), ((4, 1), 4), ((-4, 1), -4),
            ((2 * BIG + 1, 2), BIG), ((-2 * BIG - 1, 2), -BIG - 1),
        ):
            self.assertEqual(floor_of(one), answer)
        for one in ALL:
            self.assertEqual(floor_of(one), floor(Fraction(*one)))
            self.assertIs(type(floor_of(one)), int)


if __name__ == "__main__":
    unittest.main()
