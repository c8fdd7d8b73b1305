import random
import unittest
from copy import deepcopy
from fractions import Fraction

from recut.bands import area, bands, leanings
from recut.errors import CutError, Crossed, NoNumber, Odd
from support import (
    BIG, Case, area_by_hand, bands_by_hand, crossed_by_hand, in_cloth, leanings_by_hand, told, widely_spread,
)

SQUARE = [(0, 0), (1, 0), (1, 1), (0, 1)]
TRIANGLE = [(0, 0), (2, 0), (0, 1)]
ZERO = (0, 1)
ONE = (1, 1)


def random_rings(chance):
    """Rings of all kinds; of few corners on a small field, so that many are not refused."""
    wide = chance.choice((1, 2, 3, 6))
    high = chance.choice((2, 5, 30))
    rings = []
    for ring in range(chance.randint(0, 3)):
        corners = [(chance.randint(-wide, wide), chance.randint(-high, high)) for k in range(chance.randint(0, 5))]
        rings.extend([corners] * chance.choice((1, 1, 1, 2, 3)))
    return rings


class BandsCase(Case):
    def check_rings(self, rings):
        kept = deepcopy(rings)
        rows = bands(rings)
        self.assertEqual(rings, kept)
        self.assertIs(type(rows), list)
        for row in rows:
            self.assertIs(type(row), tuple)
            self.assertEqual(len(row), 5)
            self.assertIs(type(row[0]), int)
            for height in row[1:]:
                self.check_fraction(height)
        self.assertEqual(rows, bands_by_hand(rings))
        return rows

    def check_crossed(self, rings, column):
        kept = deepcopy(rings)
        for kind in (Crossed, CutError, ValueError):
            with self.assertRaises(kind) as caught:
                bands(rings)
            self.assertIs(type(caught.exception), Crossed)
            self.assertNotIsInstance(caught.exception, (NoNumber, Odd))
            self.assertEqual(caught.exception.column, column)
            self.assertIs(type(caught.exception.column), int)
        self.assertEqual(crossed_by_hand(rings), column)
        self.assertEqual(rings, kept)


class BandsTest(BandsCase):
    def test_nothing(self):
        for rings in ([], [[]], [[], []], [[(3, 4)]], [[(3, 4)], []], [[(3, 4), (3, 4)]]):
            self.assertEqual(self.check_rings(rings), [])

    def test_two_corners(self):
        for ring in ([(0, 0), (5, 3)], [(5, 3), (0, 0)], [(0, 0), (0, 4)], [(-2, 7), (3, 7)]):
            self.assertEqual(self.check_rings([ring]), [])

    def test_two_corners_across_a_cloth_add_sides_twice(self):
        rings = [[(0, 0), (1, 0), (1, 4), (0, 4)], [(0, 2), (1, 2)]]
        self.assertEqual(self.check_rings(rings), [
            (0, ZERO, ZERO, (2, 1), (2, 1)), (0, (2, 1), (2, 1), (4, 1), (4, 1)),
        ])

    def test_square(self):
        for start in range(4):
            ring = SQUARE[start:] + SQUARE[:start]
            for told_as in (ring, ring[::-1]):
                self.assertEqual(self.check_rings([told_as]), [(0, ZERO, ZERO, ONE, ONE)])

    def test_fractions_as_heights(self):
        self.assertEqual(self.check_rings([TRIANGLE]), [(0, ZERO, ZERO, ONE, (1, 2)), (1, ZERO, ZERO, (1, 2), ZERO)])
        rows = self.check_rings([[(0, 0), (3, 1), (1, 5)]])
        self.assertEqual(rows, [
            (0, ZERO, (1, 3), ZERO, (5, 1)), (1, (1, 3), (2, 3), (5, 1), (3, 1)), (2, (2, 3), ONE, (3, 1), ONE),
        ])

    def test_sides_of_many_columns(self):
        rows = self.check_rings([[(-50, -1), (50, 2), (49, 8), (-49, 9)]])
        self.assertEqual([row[0] for row in rows], list(range(-50, 50)))
        self.assertEqual(rows[1][1:], ((-97, 100), (-47, 50), (9, 1), (881, 98)))

    def test_corners_that_come_again(self):
        for ring in (
            [(0, 0), (0, 0), (1, 0), (1, 0), (1, 1), (0, 1), (0, 1), (0, 1)],
            [(0, 0), (1, 0), (1, 1), (0, 1), (0, 0)],
            [(0, 0), (1, 0), (2, 0), (1, 0), (1, 1), (0, 1)],
        ):
            self.assertEqual(self.check_rings([ring]), [(0, ZERO, ZERO, ONE, ONE)])
        bow = [(0, 0), (1, -1), (1, 1), (0, 0), (-1, 1), (-1, -1)]
        self.assertEqual(self.check_rings([bow]), [
            (-1, (-1, 1), ZERO, ONE, ZERO), (0, ZERO, (-1, 1), ZERO, ONE),
        ])

    def test_upright_sides_go_through_no_column(self):
        rings = [[(0, 0), (0, -9), (0, 0), (1, 0), (1, 7), (1, 1), (0, 1), (0, 30)]]
        self.assertEqual(self.check_rings(rings), [(0, ZERO, ZERO, ONE, ONE)])

    def test_a_ring_that_comes_twice_or_three_times(self):
        for ring in (SQUARE, TRIANGLE, [(0, 0), (5, 3), (2, 7)]):
            once = self.check_rings([ring])
            self.assertEqual(self.check_rings([ring, ring]), [])
            self.assertEqual(self.check_rings([ring, ring[::-1]]), [])
            self.assertEqual(self.check_rings([ring, ring, ring]), once)

    def test_a_ring_in_a_ring_is_a_hole(self):
        rings = [[(0, 0), (3, 0), (3, 3), (0, 3)], [(1, 1), (2, 1), (2, 2), (1, 2)]]
        self.assertEqual(self.check_rings(rings), [
            (0, ZERO, ZERO, (3, 1), (3, 1)), (1, ZERO, ZERO, ONE, ONE), (1, (2, 1), (2, 1), (3, 1), (3, 1)),
            (2, ZERO, ZERO, (3, 1), (3, 1)),
        ])

    def test_sides_that_lie_on_one_another(self):
        upper = [(0, 1), (1, 1), (1, 2), (0, 2)]
        self.assertEqual(self.check_rings([SQUARE, upper]), [(0, ZERO, ZERO, ONE, ONE), (0, ONE, ONE, (2, 1), (2, 1))])
        longer = [(-1, -1), (2, 2), (2, -1)]
        shorter = [(0, 0), (1, 1), (0, 1)]
        self.check_rings([longer, shorter])

    def test_sides_that_meet_at_a_thread(self):
        self.assertEqual(self.check_rings([[(0, 0), (1, 0), (1, 3)], [(0, 0), (1, 3), (0, 3)]]), [
            (0, ZERO, ZERO, ZERO, (3, 1)), (0, ZERO, (3, 1), (3, 1), (3, 1)),
        ])
        self.check_rings([[(0, 0), (2, 2), (0, 4)], [(4, 0), (2, 2), (4, 4)]])

    def test_sides_that_change_places_at_a_thread(self):
        self.assertEqual(self.check_rings([[(0, 0), (2, 2), (2, 0), (0, 2)]]), [
            (0, ZERO, ONE, (2, 1), ONE), (1, ONE, ZERO, ONE, (2, 1)),
        ])
        self.assertEqual(len(self.check_rings([[(-3, -6), (3, 6), (3, -6), (-3, 6)]])), 6)

    def test_a_pair_alike_at_one_thread_alone_is_a_band(self):
        self.assertEqual(self.check_rings([[(0, 0), (1, 0), (1, 1)]]), [(0, ZERO, ZERO, ZERO, ONE)])
        self.assertEqual(self.check_rings([[(0, 0), (1, 0), (0, 1)]]), [(0, ZERO, ZERO, ONE, ZERO)])

    def test_a_pair_alike_at_both_threads_is_no_band(self):
        self.assertEqual(self.check_rings([SQUARE, [(0, 5), (1, 6)]]), [(0, ZERO, ZERO, ONE, ONE)])
        self.assertEqual(self.check_rings([[(0, -5), (1, -6)], SQUARE]), [(0, ZERO, ZERO, ONE, ONE)])

    def test_where_left_heights_are_alike_the_right_ones_order(self):
        fan = [[(0, 0), (1, 7), (1, 5)], [(0, 0), (1, 3), (1, -2)]]
        self.assertEqual(self.check_rings(fan), [(0, ZERO, (-2, 1), ZERO, (3, 1)), (0, ZERO, (5, 1), ZERO, (7, 1))])

    def test_heights_are_ordered_as_fractions(self):
        ring = [(0, 0), (7, 3), (7, 9), (0, 9)]
        inner = [(0, 2), (5, 6), (5, 7), (0, 7)]
        self.check_rings([ring, inner])

    def test_order_of_columns_and_in_a_column(self):
        squares = [(5, 0), (-3, 7), (0, 4), (-3, -2), (0, 1), (5, -9)]
        rings = [[(x, y), (x + 1, y), (x + 1, y + 1), (x, y + 1)] for x, y in squares]
        rows = self.check_rings(rings)
        self.assertEqual([(row[0], row[1][0]) for row in rows], sorted(squares))

    def test_numbers_below_nought_and_of_sixty_figures(self):
        for right, up, scale in ((-7, -9, 1), (BIG, -BIG, 1), (-BIG, BIG, BIG), (0, 0, BIG)):
            for ring in (SQUARE, TRIANGLE, [(0, 0), (3, 1), (1, 5)], [(0, 0), (7, -3), (5, 2)]):
                rings = [[(x + right, y * scale + up) for x, y in ring]]
                self.check_rings(rings)
        row = bands([[(BIG, -BIG), (BIG + 3, 1), (BIG, 1)]])[1]
        self.assertEqual(row, (BIG + 1, told(Fraction(1 - 2 * BIG, 3)), told(Fraction(2 - BIG, 3)), ONE, ONE))

    def test_many_random_rings(self):
        chance = random.Random(12)
        refused = 0
        for again in range(1500):
            rings = random_rings(chance)
            column = crossed_by_hand(rings)
            if column is None:
                self.check_rings(rings)
            else:
                refused += 1
                self.check_crossed(rings, column)
        self.assertGreater(refused, 200)
        self.assertLess(refused, 1300)

    def test_bands_lie_where_the_cloth_does(self):
        chance = random.Random(7)
        for again in range(120):
            rings = random_rings(chance)
            if crossed_by_hand(rings) is None:
                rows = bands(rings)
                for x, y in widely_spread([corner for ring in rings for corner in ring], again, 12):
                    place = in_cloth(rings, x, y)
                    if place is not None:
                        self.assertEqual(any(within(row, x, y) for row in rows), place)

    def test_a_told_list_is_the_askers_own(self):
        rings = [SQUARE, [(3, 0), (5, 0), (3, 1)]]
        first = bands(rings)
        kept = list(first)
        second = bands(rings)
        first.clear()
        self.assertEqual(second, kept)
        self.assertEqual(bands(rings), kept)


def within(row, x, y):
    part = x - row[0]
    if not 0 < part < 1:
        return False
    low0, low1, up0, up1 = [Fraction(*height) for height in row[1:]]
    return low0 + part * (low1 - low0) < y < up0 + part * (up1 - up0)


class CrossedTest(BandsCase):
    def test_two_sides_cross(self):
        self.check_crossed([[(0, 0), (1, 1), (1, 0), (0, 1)]], 0)
        self.check_crossed([[(0, 0), (3, 3), (3, 0), (0, 3)]], 1)
        self.check_crossed([[(-3, 0), (0, 3), (0, 0), (-3, 3)]], -2)

    def test_sides_of_two_rings(self):
        self.check_crossed([SQUARE, [(0, 2), (1, -1)]], 0)
        self.check_crossed([[(0, 0), (6, 0)], [(1, -1), (6, 1), (6, 3), (1, 3)]], 3)

    def test_the_first_of_several_columns(self):
        bow = [(0, 0), (1, 1), (1, 0), (0, 1)]
        moved = [[(x + right, y) for x, y in bow] for right in (9, 4, -2, 30)]
        self.check_crossed(moved, -2)
        self.check_crossed([moved[0], moved[3], moved[1]], 4)
        self.check_crossed([moved[3], moved[0], SQUARE], 9)

    def test_the_first_column_is_not_the_first_ring(self):
        self.check_crossed([[(5, 0), (6, 9), (6, 0), (5, 9)], [(1, 0), (2, 9), (2, 0), (1, 9)]], 1)

    def test_a_lower_pair_that_does_not_cross(self):
        self.check_crossed([SQUARE, [(0, 5), (1, 9), (1, 5), (0, 9)]], 0)
        self.check_crossed([[(0, 5), (1, 9), (1, 5), (0, 9)], [(0, 20), (1, 20), (1, 21)]], 0)

    def test_sides_that_cross_and_are_no_neighbours(self):
        self.check_crossed([[(0, 0), (1, 9)], [(0, 1), (1, 1)], [(0, 2), (1, 0)]], 0)

    def test_sides_that_lie_on_one_another_are_crossed_too(self):
        self.check_crossed([SQUARE, SQUARE, [(0, -1), (1, 3)]], 0)

    def test_numbers_of_sixty_figures(self):
        self.check_crossed([[(BIG, 0), (BIG + 1, BIG), (BIG + 1, 0), (BIG, BIG)]], BIG)
        self.check_crossed([[(-BIG, 0), (3 - BIG, BIG), (3 - BIG, 0), (-BIG, BIG)]], 1 - BIG)

    def test_nearly_crossing(self):
        self.check_crossed([[(0, 0), (1, BIG)], [(0, 1), (1, BIG - 1)]], 0)
        self.check_rings([[(0, 0), (1, BIG)], [(0, 1), (1, BIG)]])
        self.check_rings([[(0, 0), (1, BIG)], [(0, 0), (1, BIG - 1)]])


class AreaTest(BandsCase):
    def test_written_areas(self):
        for rings, answer in (
            ([], (0, 1)), ([[(1, 2), (3, 4)]], (0, 1)), ([SQUARE, SQUARE], (0, 1)), ([SQUARE], (1, 1)), ([TRIANGLE], (1, 1)),
            ([[(0, 0), (1, 0), (0, 1)]], (1, 2)), ([[(0, 0), (3, 1), (1, 5)]], (7, 1)),
            ([[(0, 0), (3, 0), (3, 3), (0, 3)], [(1, 1), (2, 1), (2, 2), (1, 2)]], (8, 1)),
            ([[(0, 0), (3, 1), (0, 2), (-1, 5)]], (4, 1)),
        ):
            rows = bands(rings)
            self.check_fraction(area(rows))
            self.assertEqual(area(rows), answer)

    def test_no_bands(self):
        self.assertEqual(area([]), (0, 1))

    def test_random_rings_and_great_ones(self):
        chance = random.Random(31)
        for again in range(400):
            rings = random_rings(chance)
            if crossed_by_hand(rings) is None:
                for scale in (1, BIG):
                    great = [[(x - scale, scale * y + 1) for x, y in ring] for ring in rings]
                    rows = bands(great)
                    kept = list(rows)
                    self.assertEqual(area(rows), told(area_by_hand(great)))
                    self.check_fraction(area(rows))
                    self.assertEqual(rows, kept)


class LeaningsTest(BandsCase):
    def check_leanings(self, rings):
        rows = bands(rings)
        kept = list(rows)
        answer = leanings(rows)
        self.assertEqual(rows, kept)
        self.assertIs(type(answer), list)
        for one in answer:
            self.assertIs(type(one), tuple)
            self.check_fraction(one[0])
            self.assertIs(type(one[1]), int)
        wanted = leanings_by_hand(rings)
        self.assertEqual(answer, [(told(slope), wanted[slope]) for slope in sorted(wanted)])
        return answer

    def test_no_bands(self):
        self.assertEqual(leanings([]), [])
        self.assertEqual(self.check_leanings([SQUARE, SQUARE]), [])

    def test_numbers_above_nought_and_below(self):
        self.assertEqual(self.check_leanings([TRIANGLE]), [((-1, 2), 2), ((0, 1), -2)])
        self.assertEqual(self.check_leanings([[(0, 0), (3, 1), (1, 5)]]), [((-2, 1), 2), ((1, 3), -3), ((5, 1), 1)])

    def test_none_of_nought(self):
        self.assertEqual(self.check_leanings([SQUARE]), [])
        self.assertEqual(self.check_leanings([[(0, 0), (2, 3), (3, 7), (1, 4)]]), [])

    def test_sides_of_unlike_bands_are_reckoned_together(self):
        rings = [[(0, 0), (1, 0), (1, 1)], [(7, 0), (8, 1), (7, 1)]]
        self.assertEqual(self.check_leanings(rings), [])
        self.assertEqual(self.check_leanings([rings[0], [(7, 0), (8, 0), (8, 1)]]), [((0, 1), -2), ((1, 1), 2)])

    def test_order_of_slopes_is_not_that_of_tuples(self):
        ring = [(0, 0), (6, 0), (3, 1), (1, 1)]
        self.assertEqual(self.check_leanings([ring]), [((-1, 3), 3), ((0, 1), -4), ((1, 1), 1)])
        ring = [(0, 0), (5, 0), (5, 9), (3, 8), (0, 7)]
        self.assertEqual(self.check_leanings([ring]), [((0, 1), -5), ((1, 3), 3), ((1, 2), 2)])

    def test_random_rings(self):
        chance = random.Random(44)
        for again in range(400):
            rings = random_rings(chance)
            if crossed_by_hand(rings) is None:
                self.check_leanings(rings)
                self.check_leanings([[(x + BIG, y * BIG) for x, y in ring] for ring in rings])

    def test_a_told_list_is_the_askers_own(self):
        rows = bands([TRIANGLE])
        first = leanings(rows)
        kept = list(first)
        first.clear()
        self.assertEqual(leanings(rows), kept)
        self.assertEqual(rows, bands([TRIANGLE]))


if __name__ == "__main__":
    unittest.main()
