import unittest
from fractions import Fraction

from recut.moves import led, way_back
from recut.pieces import common, cut, doubled, lies, piece_of, pushed
from support import BIG, Case, corner_values, doubled_by_hand, left, sides, spot, spots_of, told, values

SQUARE = (1, ((0, 0), (1, 0), (1, 1), (0, 1)))
WIDE = (1, ((-2, -2), (3, -2), (3, 3), (-2, 3)))
TRIANGLE = (1, ((0, 0), (2, 1), (1, 3)))
THIRDS = (6, ((-3, 2), (5, -4), (9, 3), (1, 8)))
KITE = (2, ((-2, 1), (0, -3), (3, 0), (2, 3), (0, 4)))
FAR = (3, ((BIG, -BIG), (BIG + 4, -BIG), (BIG + 1, -BIG + 5)))
FINE = (BIG, ((0, 0), (BIG - 1, 1), (2, BIG)))
SMALL = [SQUARE, WIDE, TRIANGLE, THIRDS, KITE]
ALL = SMALL + [FAR, FINE]


def lies_by_hand(piece, one):
    turns = [left(first, second, values(one)) for first, second in sides(corner_values(piece))]
    if min(turns) < 0:
        return -1
    return 0 if min(turns) == 0 else 1


def clipped_by_hand(ring, height):
    """What is left of a ring where height, which is straight, is not below nought."""
    kept = []
    for one, other in sides(ring):
        first = height(one)
        second = height(other)
        if first >= 0:
            kept.append(one)
        if first * second < 0:
            part = first / (first - second)
            kept.append((one[0] + part * (other[0] - one[0]), one[1] + part * (other[1] - one[1])))
    return kept


def common_area_by_hand(one, other):
    ring = corner_values(one)
    for first, second in sides(corner_values(other)):
        ring = clipped_by_hand(ring, lambda third: left(first, second, third))
    return doubled_by_hand(ring)


def grid(low, high, step):
    count = int((high - low) / step)
    places = [low + step * k for k in range(count + 1)]
    return [spot(x, y) for x in places for y in places]


GRID = grid(Fraction(-5, 2), Fraction(7, 2), Fraction(1, 4))


class PieceOfTest(Case):
    def ways_to_tell(self, ring):
        """The same ring of spots, told in many ways that point 8 allows."""
        middles = []
        for one, other in sides(ring):
            (x, y), (u, v) = values(one), values(other)
            middles.append(one)
            middles.append(spot((2 * x + u) / 3, (2 * y + v) / 3))
            middles.append(spot(x + (u - x) * Fraction(6, 7), y + (v - y) * Fraction(6, 7)))
        for known in (ring, middles):
            for start in range(len(known)):
                turned = known[start:] + known[:start]
                yield turned
                yield turned + turned[:1]
                yield [one for one in turned for again in range(2)]
                yield turned[:1] * 3 + turned[1:] + turned[:1] * 2

    def test_the_same_piece_however_it_is_told(self):
        for piece in ALL:
            self.check_piece(piece)
            for spots in self.ways_to_tell(spots_of(piece)):
                self.assertEqual(piece_of(spots), piece)

    def test_unlike_bottoms(self):
        told_as = [((1, 2), (1, 3)), ((3, 4), (0, 1)), ((1, 1), (5, 6))]
        piece = piece_of(told_as)
        self.check_piece(piece)
        self.assertEqual(piece, (12, ((6, 4), (9, 0), (12, 10))))

    def test_a_spot_on_a_side_does_not_raise_the_share(self):
        told_as = [((0, 1), (0, 1)), ((1, 7), (0, 1)), ((1, 1), (0, 1)), ((1, 1), (1, 1)), ((0, 1), (1, 1))]
        self.assertEqual(piece_of(told_as), SQUARE)

    def test_the_share_is_in_lowest_terms(self):
        self.assertEqual(piece_of([spot(2, 4), spot(6, 4), spot(6, 8)]), (1, ((2, 4), (6, 4), (6, 8))))
        halves = [spot(Fraction(1, 2), 0), spot(3, 0), spot(0, Fraction(5, 2))]
        self.assertEqual(piece_of(halves), (2, ((0, 5), (1, 0), (6, 0))))

    def test_two_least_x_s(self):
        told_as = [spot(1, 1), spot(0, 1), spot(0, -1), spot(1, 0)]
        self.assertEqual(piece_of(told_as), (1, ((0, -1), (1, 0), (1, 1), (0, 1))))

    def test_many_corners(self):
        ring = [(x, x * x) for x in range(-30, 31)]
        self.assertEqual(piece_of([spot(x, y) for x, y in ring[17:] + ring[:17]]), (1, tuple(ring)))

    def test_fewer_than_three_spots(self):
        self.assertIsNone(piece_of([]))
        self.assertIsNone(piece_of([spot(1, 2)]))
        self.assertIsNone(piece_of([spot(1, 2), spot(Fraction(1, 2), 3)]))

    def test_fewer_than_three_unlike_spots(self):
        self.assertIsNone(piece_of([spot(1, 2)] * 4))
        self.assertIsNone(piece_of([spot(1, 2), spot(1, 2), spot(0, 5), spot(1, 2)]))

    def test_spots_on_one_line(self):
        for right, up in ((1, 0), (0, 1), (2, 3), (-1, 4), (BIG, -BIG - 1)):
            for steps in ((0, 1, 2), (0, 2, 1), (0, 3, 1, 2, 3, -1), (5, 0, 5, 0), (0, 1, 2, 3, 2, 1)):
                line = [spot(Fraction(1, 3) + right * step, Fraction(step * up, 7)) for step in steps]
                self.assertIsNone(piece_of(line))

    def test_nearly_on_one_line(self):
        thin = [spot(0, 0), spot(1, 0), spot(Fraction(1, 2), Fraction(1, BIG))]
        self.check_piece(piece_of(thin))

    def test_the_list_stays_as_it_was(self):
        for piece in ALL:
            for spots in self.ways_to_tell(spots_of(piece)):
                kept = list(spots)
                piece_of(spots)
                self.assertEqual(spots, kept)


class DoubledTest(Case):
    def test_written_areas(self):
        self.assertEqual(doubled(SQUARE), (2, 1))
        self.assertEqual(doubled(TRIANGLE), (5, 1))
        self.assertEqual(doubled((2, ((0, 0), (1, 0), (1, 1), (0, 1)))), (1, 2))
        self.assertEqual(doubled((6, ((0, 0), (4, 1), (1, 3)))), (11, 36))
        self.assertEqual(doubled((6, ((0, 0), (4, 0), (1, 3)))), (1, 3))

    def test_areas_of_all(self):
        for piece in ALL:
            self.assertEqual(doubled(piece), told(doubled_by_hand(corner_values(piece))))


class LiesTest(Case):
    def check(self, piece, x, y, answer):
        place = lies(piece, spot(x, y))
        self.assertEqual(place, answer)
        self.assertIs(type(place), int)

    def test_inside(self):
        self.check(SQUARE, Fraction(1, 2), Fraction(1, 3), 1)
        self.check(SQUARE, Fraction(1, BIG), Fraction(BIG - 1, BIG), 1)
        self.check(TRIANGLE, 1, 1, 1)

    def test_on_a_side(self):
        self.check(SQUARE, Fraction(1, 2), 0, 0)
        self.check(SQUARE, 1, Fraction(1, 3), 0)
        self.check(TRIANGLE, 1, Fraction(1, 2), 0)
        self.check(TRIANGLE, Fraction(1, 3), 1, 0)

    def test_on_a_corner(self):
        for piece in ALL:
            for x, y in corner_values(piece):
                self.check(piece, x, y, 0)

    def test_outside(self):
        self.check(SQUARE, 2, 2, -1)
        self.check(SQUARE, Fraction(1, 2), -1, -1)
        self.check(SQUARE, 1 + Fraction(1, BIG), Fraction(1, 2), -1)
        self.check(TRIANGLE, 0, 1, -1)

    def test_outside_on_the_line_of_a_side(self):
        self.check(SQUARE, 2, 0, -1)
        self.check(SQUARE, -1, 1, -1)
        self.check(TRIANGLE, 4, 2, -1)
        self.check(TRIANGLE, -2, -1, -1)
        for piece in ALL:
            for one, other in sides(corner_values(piece)):
                self.check(piece, 2 * other[0] - one[0], 2 * other[1] - one[1], -1)
                self.check(piece, 2 * one[0] - other[0], 2 * one[1] - other[1], -1)

    def test_all_over_a_grid(self):
        for piece in SMALL:
            for one in GRID:
                self.assertEqual(lies(piece, one), lies_by_hand(piece, one))


LINES = [
    (a, b, c) for a in (-3, -1, 0, 2) for b in (-2, 0, 1, 4) for c in (-7, -2, 0, 1, 3) if (a, b) != (0, 0)
] + [(6, 0, 3), (0, -6, -4), (BIG, -BIG, 1), (1, BIG, BIG)]


class CutTest(Case):
    def check_cut(self, piece, line):
        answer = cut(piece, line)
        self.assertIs(type(answer), tuple)
        self.assertEqual(len(answer), 2)
        a, b, c = line
        for part, sign in zip(answer, (-1, 1)):
            self.check_part(part)
            kept = clipped_by_hand(corner_values(piece), lambda one: sign * (a * one[0] + b * one[1] - c))
            area = told(doubled_by_hand(kept))
            self.assertEqual(part is None, area == (0, 1))
            if part is not None:
                self.assertEqual(doubled(part), area)
                for x, y in corner_values(part):
                    self.assertGreaterEqual(sign * (a * x + b * y - c), 0)
                    self.assertGreaterEqual(lies(piece, spot(x, y)), 0)
        return answer

    def test_upright_line_through_the_inside(self):
        low, high = self.check_cut(SQUARE, (2, 0, 1))
        self.assertEqual(low, (2, ((0, 0), (1, 0), (1, 2), (0, 2))))
        self.assertEqual(high, (2, ((1, 0), (2, 0), (2, 2), (1, 2))))

    def test_level_line_through_the_inside(self):
        low, high = self.check_cut(SQUARE, (0, 3, 1))
        self.assertEqual(low, (3, ((0, 0), (3, 0), (3, 1), (0, 1))))
        self.assertEqual(high, (3, ((0, 1), (3, 1), (3, 3), (0, 3))))

    def test_the_same_line_told_the_other_way_round(self):
        for piece in ALL:
            for a, b, c in LINES:
                self.assertEqual(cut(piece, (-a, -b, -c)), cut(piece, (a, b, c))[::-1])

    def test_the_same_line_told_by_multiples(self):
        for piece in ALL:
            for a, b, c in LINES:
                self.assertEqual(cut(piece, (6 * a, 6 * b, 6 * c)), cut(piece, (a, b, c)))

    def test_through_two_corners(self):
        self.assertEqual(self.check_cut(SQUARE, (1, 1, 1)), (
            (1, ((0, 0), (1, 0), (0, 1))),
            (1, ((0, 1), (1, 0), (1, 1))),
        ))
        self.assertEqual(self.check_cut(SQUARE, (1, -1, 0)), (
            (1, ((0, 0), (1, 1), (0, 1))),
            (1, ((0, 0), (1, 0), (1, 1))),
        ))

    def test_through_a_corner_and_a_side(self):
        self.assertEqual(self.check_cut(SQUARE, (-1, 2, 0)), (
            (2, ((0, 0), (2, 0), (2, 1))),
            (2, ((0, 0), (2, 1), (2, 2), (0, 2))),
        ))

    def test_along_a_side(self):
        self.assertEqual(cut(SQUARE, (1, 0, 0)), (None, SQUARE))
        self.assertEqual(cut(SQUARE, (-1, 0, 0)), (SQUARE, None))
        self.assertEqual(cut(SQUARE, (0, 1, 1)), (SQUARE, None))
        self.assertEqual(cut(SQUARE, (0, -1, -1)), (None, SQUARE))
        self.assertEqual(cut(TRIANGLE, (-1, 2, 0)), (None, TRIANGLE))

    def test_touching_a_corner_alone(self):
        self.assertEqual(cut(SQUARE, (1, 1, 0)), (None, SQUARE))
        self.assertEqual(cut(SQUARE, (1, 1, 2)), (SQUARE, None))

    def test_past_the_piece(self):
        self.assertEqual(cut(SQUARE, (1, 0, 2)), (SQUARE, None))
        self.assertEqual(cut(SQUARE, (1, 0, -2)), (None, SQUARE))
        self.assertEqual(cut(SQUARE, (0, -3, 1)), (SQUARE, None))
        self.assertEqual(cut(SQUARE, (-2, -3, -60)), (None, SQUARE))
        self.assertEqual(cut(SQUARE, (2, 3, 60)), (SQUARE, None))

    def test_all_lines_through_all_pieces(self):
        for piece in ALL:
            for line in LINES:
                self.check_cut(piece, line)

    def test_the_inside_of_both_parts(self):
        for piece in SMALL:
            for a, b, c in LINES:
                low, high = cut(piece, (a, b, c))
                for one in GRID[::7]:
                    x, y = values(one)
                    inside = lies(piece, one) == 1
                    height = a * x + b * y - c
                    self.assertEqual(low is not None and lies(low, one) == 1, inside and height < 0)
                    self.assertEqual(high is not None and lies(high, one) == 1, inside and height > 0)


def placed(piece, x, y):
    return pushed(piece, (1, told(x), told(y)))


class CommonTest(Case):
    def check_common(self, one, other):
        part = common(one, other)
        self.assertEqual(common(other, one), part)
        self.check_part(part)
        area = told(common_area_by_hand(one, other))
        self.assertEqual(part is None, area == (0, 1))
        if part is not None:
            self.assertEqual(doubled(part), area)
            for corner in spots_of(part):
                self.assertGreaterEqual(lies(one, corner), 0)
                self.assertGreaterEqual(lies(other, corner), 0)
        return part

    def test_overlapping(self):
        part = self.check_common(SQUARE, placed(SQUARE, Fraction(1, 2), Fraction(1, 3)))
        self.assertEqual(part, (6, ((3, 2), (6, 2), (6, 6), (3, 6))))

    def test_overlapping_with_more_corners_than_either(self):
        one = (1, ((0, 0), (6, 0), (3, 6)))
        other = (1, ((0, 4), (3, -2), (6, 4)))
        part = self.check_common(one, other)
        self.assertEqual(part, (1, ((1, 2), (2, 0), (4, 0), (5, 2), (4, 4), (2, 4))))

    def test_one_in_the_other(self):
        self.assertEqual(self.check_common(SQUARE, WIDE), SQUARE)
        self.assertEqual(self.check_common(TRIANGLE, WIDE), TRIANGLE)

    def test_one_in_the_other_with_a_side_in_common(self):
        half = (2, ((0, 0), (2, 0), (2, 1), (0, 1)))
        self.assertEqual(self.check_common(SQUARE, half), half)

    def test_a_side_alone(self):
        self.assertIsNone(self.check_common(SQUARE, placed(SQUARE, 1, 0)))
        self.assertIsNone(self.check_common(SQUARE, placed(SQUARE, Fraction(1, 2), -1)))

    def test_a_corner_alone(self):
        self.assertIsNone(self.check_common(SQUARE, placed(SQUARE, 1, 1)))
        self.assertIsNone(self.check_common(SQUARE, placed(SQUARE, -1, 1)))
        self.assertIsNone(self.check_common(SQUARE, (2, ((2, 1), (4, 0), (4, 2)))))

    def test_apart(self):
        self.assertIsNone(self.check_common(SQUARE, placed(SQUARE, 5, 0)))
        self.assertIsNone(self.check_common(SQUARE, placed(SQUARE, 0, -5)))
        self.assertIsNone(self.check_common(SQUARE, FAR))

    def test_apart_though_the_sides_of_one_do_not_part_them(self):
        self.assertIsNone(self.check_common(SQUARE, (4, ((3, 7), (7, 3), (7, 7)))))

    def test_a_piece_and_itself(self):
        for piece in ALL:
            self.assertEqual(self.check_common(piece, piece), piece)

    def test_all_pairs(self):
        moves = [(sign, (x, 4), (y, 3)) for sign in (1, -1) for x in (-5, 0, 2, 8) for y in (-4, 0, 3)]
        for one in ALL:
            for other in ALL:
                for move in moves:
                    self.check_common(one, pushed(other, move))

    def test_the_inside(self):
        for one in SMALL:
            for other in SMALL:
                part = common(one, other)
                for place in GRID[::5]:
                    inside = lies(one, place) == 1 and lies(other, place) == 1
                    self.assertEqual(part is not None and lies(part, place) == 1, inside)


class PushedTest(Case):
    MOVES = [
        (1, (0, 1), (0, 1)), (1, (1, 2), (-2, 3)), (1, (-4, 1), (5, 1)), (1, (BIG, 7), (1, BIG)),
        (-1, (0, 1), (0, 1)), (-1, (1, 3), (1, 2)), (-1, (7, 1), (-1, 1)), (-1, (-BIG, 2), (BIG, 3)),
    ]

    def test_shifts(self):
        self.assertEqual(pushed(SQUARE, (1, (0, 1), (0, 1))), SQUARE)
        self.assertEqual(pushed(SQUARE, (1, (2, 1), (-3, 1))), (1, ((2, -3), (3, -3), (3, -2), (2, -2))))
        self.assertEqual(pushed(SQUARE, (1, (1, 2), (1, 3))), (6, ((3, 2), (9, 2), (9, 8), (3, 8))))

    def test_half_turns(self):
        self.assertEqual(pushed(SQUARE, (-1, (1, 1), (1, 1))), SQUARE)
        self.assertEqual(pushed(TRIANGLE, (-1, (0, 1), (0, 1))), (1, ((-2, -1), (-1, -3), (0, 0))))
        self.assertEqual(pushed(TRIANGLE, (-1, (1, 2), (0, 1))), (2, ((-3, -2), (-1, -6), (1, 0))))

    def test_a_share_that_falls(self):
        half = (2, ((1, 0), (3, 0), (3, 2), (1, 2)))
        self.assertEqual(pushed(half, (1, (-1, 2), (0, 1))), SQUARE)
        self.assertEqual(pushed(half, (-1, (3, 2), (1, 1))), SQUARE)

    def test_all_corners_are_led(self):
        for piece in ALL:
            for move in self.MOVES:
                answer = pushed(piece, move)
                self.check_piece(answer)
                self.assertEqual(sorted(spots_of(answer)), sorted(led(move, one) for one in spots_of(piece)))
                self.assertEqual(doubled(answer), doubled(piece))

    def test_all_spots_are_led(self):
        for piece in SMALL:
            for move in self.MOVES:
                answer = pushed(piece, move)
                for one in GRID[::11]:
                    self.assertEqual(lies(answer, led(move, one)), lies(piece, one))

    def test_back_again(self):
        for piece in ALL:
            for move in self.MOVES:
                self.assertEqual(pushed(pushed(piece, move), way_back(move)), piece)
                self.assertEqual(pushed(pushed(piece, way_back(move)), move), piece)


if __name__ == "__main__":
    unittest.main()
