"""What several test files need: the promises of the document, reckoned anew with Python's own fractions."""

import random
import unittest
from fractions import Fraction
from math import gcd

from recut.pieces import doubled, lies, pushed

BIG = 10 ** 60 + 7


def told(value):
    value = Fraction(value)
    return (value.numerator, value.denominator)


def spot(x, y):
    return (told(x), told(y))


def values(one):
    return (Fraction(*one[0]), Fraction(*one[1]))


def corner_values(piece):
    return [(Fraction(x, piece[0]), Fraction(y, piece[0])) for x, y in piece[1]]


def spots_of(piece):
    return [spot(x, y) for x, y in corner_values(piece)]


def left(one, other, third):
    return (other[0] - one[0]) * (third[1] - one[1]) - (other[1] - one[1]) * (third[0] - one[0])


def sides(ring):
    return list(zip(ring, ring[1:] + ring[:1]))


def doubled_by_hand(ring):
    return sum(one[0] * other[1] - one[1] * other[0] for one, other in sides(ring))


# Cloths.

def height_at(side, x):
    (x0, y0), (x1, y1) = side
    return y0 + Fraction((y1 - y0) * (x - x0), x1 - x0)


def sides_through(rings, column):
    found = []
    for ring in rings:
        for one, other in sides(ring):
            if min(one[0], other[0]) <= column and column + 1 <= max(one[0], other[0]):
                found.append((height_at((one, other), column), height_at((one, other), column + 1)))
    return found


def columns_of(rings):
    xs = [x for ring in rings for x, y in ring]
    return range(min(xs), max(xs)) if xs else range(0)


def crossed_by_hand(rings):
    """The first column in which two sides cross, or None."""
    for column in columns_of(rings):
        heights = sides_through(rings, column)
        if any(one[0] < other[0] and other[1] < one[1] for one in heights for other in heights):
            return column
    return None


def bands_by_hand(rings):
    rows = []
    for column in columns_of(rings):
        heights = sorted(sides_through(rings, column))
        for low, up in zip(heights[::2], heights[1::2]):
            if low != up:
                rows.append((column, told(low[0]), told(low[1]), told(up[0]), told(up[1])))
    return rows


def area_by_hand(rings):
    """From the rings alone, by the even and odd heights within each column."""
    total = Fraction(0)
    for column in columns_of(rings):
        for place, height in enumerate(sorted(sides_through(rings, column))):
            total += sum(height) * (1 if place % 2 else -1)
    return total / 2


def leanings_by_hand(rings):
    numbers = {}
    for column in columns_of(rings):
        for place, height in enumerate(sorted(sides_through(rings, column))):
            slope = height[1] - height[0]
            numbers[slope] = numbers.get(slope, 0) + (1 if place % 2 else -1)
    return {slope: number for slope, number in numbers.items() if number != 0}


def in_cloth(rings, x, y):
    """True, False, or None for a spot on a thread or on a side, of which nothing is told."""
    if x.denominator == 1:
        return None
    lower = 0
    for ring in rings:
        for one, other in sides(ring):
            if min(one[0], other[0]) < x < max(one[0], other[0]):
                height = height_at((one, other), x)
                if height == y:
                    return None
                if height < y:
                    lower += 1
    return lower % 2 == 1


def widely_spread(ring_or_corners, seed, count):
    """Spots over and somewhat beyond the corners, few of them on any side."""
    chance = random.Random(seed)
    xs = [Fraction(x) for x, y in ring_or_corners] or [Fraction(0)]
    ys = [Fraction(y) for x, y in ring_or_corners] or [Fraction(0)]
    wide = max(xs) - min(xs) + 1
    high = max(ys) - min(ys) + 1
    spots = []
    for again in range(count):
        x = min(xs) + wide * Fraction(chance.randint(-100, 1109), 1009) - Fraction(1, 2)
        y = min(ys) + high * Fraction(chance.randint(-100, 1113), 1013) - Fraction(1, 2)
        spots.append((x, y))
    return spots


def home(bits):
    return [pushed(piece, move) for piece, move in bits]


def over_spot(pieces, x, y):
    """How many pieces a spot lies inside, or None where it is on a side of one."""
    places = [lies(piece, spot(x, y)) for piece in pieces]
    return None if 0 in places else places.count(1)


def middle(piece):
    corners = corner_values(piece)
    return (sum(x for x, y in corners) / len(corners), sum(y for x, y in corners) / len(corners))


def whole_area(pieces):
    return sum([Fraction(*doubled(piece)) for piece in pieces], Fraction(0)) / 2


# Shapes of points 17 and 23, as rings of values.

def box_ring(lean, height):
    s, h = Fraction(*lean), Fraction(*height)
    return [(0, 0), (1, s), (1, s + h), (0, h)]


def opening_ring(number, leans):
    s, t = Fraction(*leans[number]), Fraction(*leans[number + 1])
    return [(0, 0), (1, s), (1, t)]


def closing_ring(number, leans):
    s, t = Fraction(*leans[number]), Fraction(*leans[number + 1])
    return [(0, 0), (1, t), (0, t - s)]


def in_ring(ring, x, y):
    """True inside a convex ring that goes to the left, False outside, None on a side."""
    turns = [left(one, other, (x, y)) for one, other in sides(ring)]
    if min(turns) == 0:
        return None
    return min(turns) > 0


class Case(unittest.TestCase):
    def check_piece(self, piece):
        """All of point 7."""
        self.assertIs(type(piece), tuple)
        share, corners = piece
        self.assertIs(type(share), int)
        self.assertGreaterEqual(share, 1)
        self.assertIs(type(corners), tuple)
        self.assertGreaterEqual(len(corners), 3)
        for corner in corners:
            self.assertIs(type(corner), tuple)
            self.assertEqual([type(number) for number in corner], [int, int])
        for one, other in sides(corners):
            for third in corners:
                if third not in (one, other):
                    self.assertGreater(left(one, other, third), 0)
        self.assertEqual(len(set(corners)), len(corners))
        self.assertEqual(corners[0], min(corners))
        self.assertEqual(gcd(share, *[number for corner in corners for number in corner]), 1)

    def check_part(self, part):
        if part is not None:
            self.check_piece(part)

    def check_fraction(self, one):
        self.assertIs(type(one), tuple)
        self.assertEqual([type(part) for part in one], [int, int])
        self.assertEqual(one, told(Fraction(*one)))

    def check_move(self, move):
        self.assertIs(type(move), tuple)
        self.assertEqual(len(move), 3)
        self.assertIs(type(move[0]), int)
        self.assertIn(move[0], (1, -1))
        self.check_fraction(move[1])
        self.check_fraction(move[2])

    def check_bits(self, bits):
        self.assertIs(type(bits), list)
        for bit in bits:
            self.check_bit(bit)

    def check_bit(self, bit):
        self.assertIs(type(bit), tuple)
        piece, move = bit
        self.check_piece(piece)
        self.check_move(move)

    def check_filled(self, pieces, area, inside, corners, count=60):
        """The pieces come to the area; a spot lies inside one of them where inside tells True, else inside none."""
        self.assertEqual(whole_area(pieces), area)
        spots = widely_spread(corners, len(pieces), count) + [middle(piece) for piece in pieces[:count]]
        for x, y in spots:
            number = over_spot(pieces, x, y)
            place = inside(x, y)
            if number is not None and place is not None:
                self.assertEqual(number, 1 if place else 0, (x, y))

    def check_cloth(self, pieces, rings, count=60):
        corners = [corner for ring in rings for corner in ring]
        self.check_filled(pieces, area_by_hand(rings), lambda x, y: in_cloth(rings, x, y), corners, count)

    def check_ring(self, bits, ring, count=60):
        """Bits fill the shape, a convex ring of values."""
        self.check_bits(bits)
        pieces = [piece for piece, move in bits]
        self.check_filled(pieces, Fraction(doubled_by_hand(ring)) / 2, lambda x, y: in_ring(ring, x, y), ring, count)

    def check_box(self, box, leans, count=60):
        self.assertIs(type(box), tuple)
        number, height, bits = box
        self.assertIs(type(number), int)
        self.check_fraction(height)
        self.assertGreater(height[0], 0)
        self.check_ring(bits, box_ring(leans[number], height), count)

    def check_same_home(self, ones, others, count=60):
        """Two lists of bits lie alike over all spots at home."""
        first, second = home(ones), home(others)
        self.assertEqual(whole_area(first), whole_area(second))
        corners = [corner for piece in first + second for corner in corner_values(piece)]
        spots = widely_spread(corners, len(first), count) + [middle(piece) for piece in (first + second)[:count]]
        for x, y in spots:
            one, other = over_spot(first, x, y), over_spot(second, x, y)
            if one is not None and other is not None:
                self.assertEqual(one, other, (x, y))


# Cloths of many kinds: bands that grow, shrink and stay as high, with a height of 0 at a thread or none.

def moved(rings, right, up):
    return [[(x + right, y + up) for x, y in ring] for ring in rings]


def scaled(rings, scale):
    return [[(x, y * scale) for x, y in ring] for ring in rings]


def turned(rings):
    return [[(-x, -y) for x, y in ring] for ring in rings]


EMPTY = []
SQUARE = [[(0, 0), (1, 0), (1, 1), (0, 1)]]
WIDE = [[(0, 0), (4, 0), (4, 2), (0, 2)]]
SHRINKING = [[(0, 0), (2, 0), (0, 1)]]
GROWING = [[(0, 0), (2, -1), (2, 4)]]
SLANTED = [[(0, 0), (2, 3), (2, 5), (0, 2)]]
HEXAGON = [[(0, 0), (2, -1), (3, 1), (2, 4), (0, 5), (-1, 3)]]
HOLED = [[(0, 0), (6, 0), (6, 5), (0, 5)], [(1, 1), (5, 2), (3, 4)]]
TWISTED = [[(0, 0), (4, 4), (4, 0), (0, 4)]]
DENTED = [[(0, 0), (5, 1), (2, 2), (6, 6), (-1, 4)]]
SEVERAL = [[(0, 0), (1, 0), (1, 3)], [(3, 1), (5, 2), (3, 5)], [(-4, 0), (-2, 1), (-2, 2), (-4, 1)]]
FAR_AND_GREAT = scaled(moved([[(0, 0), (3, 1), (1, 5)]], -BIG, 3), BIG)
CLOTHS = [
    EMPTY, SQUARE, WIDE, SHRINKING, GROWING, SLANTED, HEXAGON, HOLED, TWISTED, DENTED, SEVERAL, FAR_AND_GREAT,
    turned(DENTED), turned(SEVERAL),
]
