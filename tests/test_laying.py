import random
import unittest
from copy import deepcopy
from fractions import Fraction

from recut.bands import area, bands
from recut.errors import CutError, Crossed, NoNumber, Odd
from recut.laying import laid_anew, laid_over
from recut.moves import behind, way_back
from recut.pieces import common, cut, pushed
from support import (
    BIG, CLOTHS, DENTED, EMPTY, FAR_AND_GREAT, GROWING, HEXAGON, HOLED, SEVERAL, SHRINKING, SLANTED, SQUARE, TWISTED,
    WIDE, Case, area_by_hand, crossed_by_hand, home, leanings_by_hand, moved, scaled, told, turned, whole_area,
)

MOVES = [
    (1, (0, 1), (0, 1)), (-1, (5, 1), (2, 3)), (1, (-4, 1), (9, 1)), (1, (1, 2), (-7, 3)), (-1, (-3, 7), (1, 2)),
    (-1, (BIG, 1), (BIG, 5)), (1, (BIG, 1), (0, 1)),
]
BOW = [[(0, 0), (1, 1), (1, 0), (0, 1)]]


def cut_up(piece, lines):
    pieces = [piece]
    for line in lines:
        pieces = [part for one in pieces for part in cut(one, line) if part is not None]
    return pieces


def with_moves(pieces, place):
    return [(piece, MOVES[(place + k) % len(MOVES)]) for k, piece in enumerate(pieces)]


SHAPE = (1, ((0, 0), (4, 0), (6, 3), (1, 5)))
WHOLE = with_moves([SHAPE], 1)
HALVES = with_moves(cut_up(SHAPE, [(1, 0, 2)]), 2)
SAME_HALVES = with_moves(cut_up(SHAPE, [(1, 0, 2)]), 4)
LEVELS = with_moves(cut_up(SHAPE, [(0, 1, k) for k in range(1, 5)]), 0)
GRID = with_moves(cut_up(SHAPE, [(2, 0, k) for k in range(1, 12)] + [(0, 3, k) for k in range(1, 15)]), 3)
SKEW = with_moves(cut_up(SHAPE, [(3, 2, 7), (1, -4, 0), (-2, 7, 11), (5, 1, 13)]), 5)
LISTS = [WHOLE, HALVES, SAME_HALVES, LEVELS, GRID, SKEW]


class LaidOverTest(Case):
    def check_over(self, ones, others):
        kept = deepcopy((ones, others))
        answer = laid_over(ones, others)
        self.assertEqual((ones, others), kept)
        self.check_bits(answer)
        wanted = []
        for piece, move in ones:
            for other, other_move in others:
                both = common(piece, other)
                if both is not None:
                    wanted.append((pushed(both, move), behind(way_back(move), other_move)))
        self.assertEqual(sorted(answer), sorted(wanted))
        return answer

    def test_one_bit_each(self):
        for one in MOVES:
            for other in MOVES:
                answer = self.check_over([(SHAPE, one)], [(SHAPE, other)])
                self.assertEqual(len(answer), 1)
                piece, move = answer[0]
                self.assertEqual(piece, pushed(SHAPE, one))
                self.assertEqual(pushed(piece, move), pushed(SHAPE, other))

    def test_several_bits(self):
        for ones in LISTS:
            for others in LISTS:
                answer = self.check_over(ones, others)
                self.check_same_home([(piece, MOVES[0]) for piece, move in answer], ones, 20)
                self.check_same_home(answer, others, 20)

    def test_a_side_alone_in_common_brings_nothing(self):
        self.assertEqual(len(self.check_over(HALVES, SAME_HALVES)), 2)
        self.assertEqual(len(self.check_over(GRID, GRID)), len(GRID))
        left, right = [piece for piece, move in HALVES]
        self.assertEqual(self.check_over([(left, MOVES[0])], [(right, MOVES[0])]), [])
        self.assertEqual(self.check_over([(left, MOVES[0])], [(pushed(left, (1, (0, 1), (50, 1))), MOVES[0])]), [])

    def test_written_answer(self):
        square = (1, ((0, 0), (1, 0), (1, 1), (0, 1)))
        lower, upper = cut(square, (0, 2, 1))
        shift = (1, (3, 1), (0, 1))
        turn = (-1, (0, 1), (5, 1))
        answer = laid_over([(square, shift)], [(lower, turn), (upper, shift)])
        self.assertEqual(sorted(answer), sorted([
            ((2, ((6, 0), (8, 0), (8, 1), (6, 1))), (-1, (3, 1), (5, 1))),
            ((2, ((6, 1), (8, 1), (8, 2), (6, 2))), (1, (0, 1), (0, 1))),
        ]))

    def test_shares_of_many_figures(self):
        fine = with_moves(cut_up(SHAPE, [(BIG, 1, 2 * BIG), (1, BIG, 3 * BIG + 1), (BIG + 2, -BIG, 5)]), 2)
        for others in (GRID, SKEW, fine):
            self.check_over(fine, others)
            self.check_over(others, fine)

    def test_no_bits(self):
        self.assertEqual(laid_over([], []), [])

    def test_a_told_list_is_the_askers_own(self):
        first = laid_over(HALVES, SKEW)
        second = laid_over(HALVES, SKEW)
        kept = list(second)
        first.clear()
        self.assertEqual(second, kept)


def first_gap(one, other):
    first, second = leanings_by_hand(one), leanings_by_hand(other)
    for slope in sorted(set(first) | set(second)):
        if first.get(slope, 0) != second.get(slope, 0):
            return (told(slope), first.get(slope, 0), second.get(slope, 0))
    return None


class LayingCase(Case):
    def check_laid(self, one, other, answer, turns, count):
        self.assertIs(type(answer), tuple)
        self.assertEqual(len(answer), 2)
        self.assertEqual(answer[0], "laid")
        self.check_bits(answer[1])
        if not turns:
            self.assertEqual(set(move[0] for piece, move in answer[1]) - {1}, set())
        self.check_cloth([piece for piece, move in answer[1]], one, count)
        self.check_cloth(home(answer[1]), other, count)

    def check_anew(self, one, other, turns, count=25):
        """Just one of the three things, as the cloths by themselves ask for it."""
        kept = deepcopy((one, other))
        answer = laid_anew(one, other, turns)
        self.assertEqual((one, other), kept)
        areas = (area_by_hand(one), area_by_hand(other))
        gap = first_gap(one, other)
        if areas[0] != areas[1]:
            self.assertEqual(answer, ("area", told(areas[0]), told(areas[1])))
        elif gap is not None and not turns:
            self.assertEqual(answer, ("leaning",) + gap)
        else:
            self.check_laid(one, other, answer, turns, count)
        return answer

    def check_pair(self, one, other, count=25):
        for first, second in ((one, other), (other, one)):
            plain = self.check_anew(first, second, False, count)
            self.assertEqual(laid_anew(first, second), plain)
            self.check_anew(first, second, True, count)


class AreaTest(LayingCase):
    def test_areas_unlike(self):
        for turns in (False, True):
            self.assertEqual(self.check_anew(SQUARE, WIDE, turns), ("area", (1, 1), (8, 1)))
            self.assertEqual(self.check_anew([[(0, 0), (1, 0), (0, 1)]], EMPTY, turns), ("area", (1, 2), (0, 1)))
            self.assertEqual(self.check_anew(EMPTY, SQUARE, turns), ("area", (0, 1), (1, 1)))
        self.assertEqual(laid_anew(SQUARE, WIDE), ("area", (1, 1), (8, 1)))

    def test_areas_go_ahead_of_leanings(self):
        self.assertEqual(self.check_anew(GROWING, SHRINKING, False)[0], "area")

    def test_great_areas(self):
        answer = self.check_anew(FAR_AND_GREAT, SQUARE, True)
        self.assertEqual(answer, ("area", (7 * BIG, 1), (1, 1)))

    def test_all_pairs_of_cloths(self):
        kinds = set()
        for one in CLOTHS:
            for other in CLOTHS:
                for turns in (False, True):
                    kinds.add((turns, self.check_anew(one, other, turns, 8)[0]))
        self.assertEqual(len(kinds), 5)


class LeaningTest(LayingCase):
    def test_leanings_unlike(self):
        self.assertEqual(self.check_anew(SQUARE, SHRINKING, False), ("leaning", (-1, 2), 0, 2))
        self.assertEqual(self.check_anew(SHRINKING, SQUARE, False), ("leaning", (-1, 2), 2, 0))

    def test_the_first_unlike_slope(self):
        one = [[(0, 0), (2, 0), (0, 1)], [(5, 0), (6, 0), (6, 1), (5, 1)]]
        other = [[(0, 0), (2, 0), (0, 1)], [(5, 0), (7, 0), (7, 1)]]
        self.assertEqual(self.check_anew(one, other, False), ("leaning", (0, 1), -2, -4))
        self.assertEqual(self.check_anew(other, one, False), ("leaning", (0, 1), -4, -2))

    def test_a_cloth_and_its_half_turn(self):
        self.assertEqual(self.check_anew(SHRINKING, turned(SHRINKING), False), ("leaning", (-1, 2), 2, -2))
        self.assertEqual(self.check_anew(GROWING, turned(GROWING), False), ("leaning", (-1, 2), -2, 2))

    def test_a_cloth_and_its_mirror(self):
        mirror = [[(-x, y) for x, y in ring] for ring in SHRINKING]
        self.assertEqual(self.check_anew(SHRINKING, mirror, False), ("leaning", (-1, 2), 2, 0))
        self.assertEqual(self.check_anew(mirror, SHRINKING, False), ("leaning", (-1, 2), 0, 2))

    def test_left_out_and_false_are_the_same(self):
        self.assertEqual(laid_anew(SQUARE, SHRINKING), ("leaning", (-1, 2), 0, 2))
        self.assertEqual(laid_anew(SQUARE, SHRINKING, False), ("leaning", (-1, 2), 0, 2))
        self.assertEqual(laid_anew(SQUARE, SHRINKING, turns=False), ("leaning", (-1, 2), 0, 2))
        self.assertEqual(laid_anew(one=SQUARE, other=SHRINKING, turns=True)[0], "laid")


class ShiftsTest(LayingCase):
    def test_a_cloth_and_itself(self):
        for rings in CLOTHS:
            self.check_pair(rings, rings)
            self.check_pair(rings, moved(rings, 3, -7))

    def test_cloths_without_leanings(self):
        tilted = [[(0, 0), (4, 5), (4, 7), (0, 2)]]
        cross = [[(0, 1), (1, 1), (1, 0), (3, 0), (3, 1), (4, 1), (4, 2), (3, 2), (3, 3), (1, 3), (1, 2), (0, 2)]]
        hexagon = [[(0, 0), (1, -1), (2, 0), (2, 2), (1, 3), (0, 2)]]
        six = [[(0, 0), (3, 0), (3, 2), (0, 2)]]
        steep = [[(0, 0), (1, 30), (1, 36), (0, 6)]]
        falling = [[(0, 36), (3, 0), (3, 2), (0, 38)]]
        self.assertEqual(area_by_hand(tilted), 8)
        self.assertEqual(area_by_hand(cross), 8)
        self.check_pair(tilted, WIDE)
        self.check_pair(cross, WIDE)
        self.check_pair(cross, tilted)
        for other in (hexagon, steep, falling, six):
            self.assertEqual(area_by_hand(other), 6)
            for another in (steep, falling, six):
                self.assertEqual(laid_anew(other, another)[0], "laid")
                self.check_pair(other, another)

    def test_steep_sides(self):
        rising = [[(x, 0), (x + 1, 39 - x), (x + 1, 40 - x), (x, 1)] for x in range(20)]
        falling = [[(x, 39), (x + 1, 19 - x), (x + 1, 20 - x), (x, 40)] for x in range(20)]
        self.assertEqual(self.check_anew(rising, falling, False, 6)[0], "laid")

    def test_openings_and_closings_that_are_left(self):
        big = [[(0, 0), (4, 0), (0, 4)]]
        bits = [[(9, 0), (13, 0), (9, 4)]]
        pulled = [[(0, 0), (1, 0), (1, 3), (0, 4)], [(3, 3), (6, 3), (3, 6)]]
        self.assertEqual(area_by_hand(pulled), 8)
        self.check_pair(big, bits)
        self.check_pair(big, pulled)
        growing = [[(0, 4), (4, 0), (4, 4)]]
        self.check_pair(growing, [[(0, 4), (1, 3), (1, 4)], [(5, 5), (8, 2), (8, 6), (5, 6)]])

    def test_several_rings_cut_and_shifted_apart(self):
        whole = [[(0, 0), (6, 0), (6, 4), (0, 4)], [(1, 1), (5, 2), (2, 3)]]
        apart = [[(0, 0), (2, 0), (2, 4), (0, 4)], [(3, 9), (7, 9), (7, 13), (3, 13)], [(3, 10), (7, 11), (4, 12)]]
        self.check_pair(whole, apart)
        self.assertEqual(laid_anew(whole, apart)[0], "laid")

    def test_cloths_far_apart_and_of_many_figures(self):
        self.check_pair(FAR_AND_GREAT, scaled(moved([[(0, 0), (3, 1), (1, 5)]], BIG, -BIG), BIG))
        tilted = [[(0, 0), (4, 5), (4, 7), (0, 2)]]
        self.check_pair(scaled(moved(tilted, BIG, -2 * BIG), BIG), scaled(moved(WIDE, -BIG, 1), BIG))

    def test_empty_cloths(self):
        for one in (EMPTY, [[]], [[(1, 2)]], [[(1, 2), (5, 9)]], SQUARE + SQUARE, DENTED + DENTED):
            for other in (EMPTY, [[(0, 0), (0, 9)]], HOLED + HOLED):
                for turns in (False, True):
                    self.assertEqual(self.check_anew(one, other, turns), ("laid", []))


class TurnsTest(LayingCase):
    def test_cloths_that_need_turns(self):
        triangle = [[(0, 0), (4, 0), (0, 4)]]
        for one, other in (
            (SQUARE, SHRINKING), (SHRINKING, turned(SHRINKING)), (triangle, WIDE), (triangle, turned(triangle)),
            (GROWING, [[(0, 0), (5, 0), (5, 1), (0, 1)]]), (SHRINKING, [[(0, 0), (1, 0), (1, 2)]]),
        ):
            self.assertEqual(area_by_hand(one), area_by_hand(other))
            self.assertEqual(laid_anew(one, other)[0], "leaning")
            self.check_pair(one, other)
            signs = set(move[0] for piece, move in laid_anew(one, other, True)[1])
            self.assertIn(-1, signs)

    def test_half_turns_of_all_cloths(self):
        for rings in CLOTHS:
            self.check_pair(rings, turned(rings), 15)

    def test_odd_numbers_of_triangles(self):
        self.check_pair([[(0, 0), (1, 0), (1, 2)]], SQUARE)
        self.check_pair([[(0, 0), (3, 1), (1, 5)]], [[(0, 0), (7, 0), (7, 1), (0, 1)]])
        self.check_pair([[(0, 0), (3, 1), (1, 5)]], [[(0, 0), (6, 1), (0, 2)], [(7, 0), (8, 0), (8, 1), (7, 1)]])

    def test_sides_of_six_columns(self):
        one = [[(0, 0), (6, 40), (6, 37)]]
        other = [[(0, 9), (6, 0), (5, 2)], [(8, 0), (9, 0), (9, 1), (8, 1)]]
        rest = area_by_hand(one) - area_by_hand(other)
        self.assertGreater(rest, 0)
        other = other + [[(10, 0), (11, 0), (11, int(2 * rest))]]
        self.check_pair(one, other)

    def test_steep_triangles(self):
        one = [[(x, 0), (x + 1, 39 - x), (x + 1, 40 - x)] for x in range(20)]
        self.check_anew(one, [[(0, 0), (10, 0), (10, 1), (0, 1)]], True, 6)
        self.check_pair([[(0, 0), (2, 40), (3, 40)]], [[(0, 0), (4, 0), (4, 5), (0, 5)]])
        self.check_pair([[(0, 0), (2, 40), (3, 40)]], [[(0, 40), (5, 3), (6, 0)], [(7, 0), (8, 0), (8, 18)]])

    def test_numbers_of_many_figures(self):
        self.check_pair(scaled(moved(SHRINKING, BIG, 5), BIG), scaled(moved(SQUARE, -BIG, -BIG), BIG))

    def test_random_cloths(self):
        chance = random.Random(26)
        tried = 0
        while tried < 25:
            one = random_cloth(chance)
            other = random_cloth(chance)
            rest = area_by_hand(one) - area_by_hand(other)
            if abs(rest) <= 40:
                tried += 1
                (other if rest > 0 else one).append(rest_ring(abs(rest)))
                self.check_pair(one, other, 10)


def random_cloth(chance):
    """One or two rings of three to five corners each, beside one another, that are not refused."""
    while True:
        rings = []
        for right in (0, 7)[:chance.randint(1, 2)]:
            corners = [(right + chance.randint(0, 6), chance.randint(0, 12)) for k in range(chance.randint(3, 5))]
            rings.append(corners)
        if crossed_by_hand(rings) is None and area_by_hand(rings) > 0:
            return rings


def rest_ring(rest):
    """A triangle or a box, of the area."""
    if rest.denominator == 2:
        return [(15, 0), (16, 0), (16, int(2 * rest))]
    return [(15, 3), (16, 0), (16, int(rest)), (15, 3 + int(rest))]


class CrossedTest(LayingCase):
    def check_crossed(self, one, other, column):
        kept = deepcopy((one, other))
        for turns in (False, True):
            for kind in (Crossed, CutError, ValueError):
                with self.assertRaises(kind) as caught:
                    laid_anew(one, other, turns)
                self.assertIs(type(caught.exception), Crossed)
                self.assertNotIsInstance(caught.exception, (NoNumber, Odd))
                self.assertEqual(caught.exception.column, column)
        with self.assertRaises(Crossed) as caught:
            laid_anew(one, other)
        self.assertEqual(caught.exception.column, column)
        self.assertEqual((one, other), kept)

    def test_the_first_cloth(self):
        self.check_crossed(moved(BOW, 3, 0), SQUARE, 3)
        self.check_crossed(moved(BOW, -9, 0), EMPTY, -9)

    def test_the_second_cloth(self):
        self.check_crossed(SQUARE, moved(BOW, 3, 0), 3)
        self.check_crossed(EMPTY, moved(BOW, -9, 0), -9)

    def test_the_first_goes_ahead_of_the_second(self):
        self.check_crossed(moved(BOW, 8, 0), moved(BOW, 2, 0), 8)
        self.check_crossed(moved(BOW, 2, 0), moved(BOW, 8, 0), 2)

    def test_the_column_is_that_of_the_threads_as_told(self):
        self.check_crossed([[(4, 0), (7, 3), (7, 0), (4, 3)]], SQUARE, 5)

    def test_sides_that_cross_in_the_middle_of_a_column(self):
        self.check_crossed([[(5, 0), (6, 2), (6, 0), (5, 2)]], SQUARE, 5)

    def test_refused_however_great(self):
        high = [[(0, 0), (100, BIG), (100, 0), (0, BIG - 1)]]
        self.check_crossed(high, SQUARE, crossed_by_hand(high))
        self.check_crossed(SQUARE, high, crossed_by_hand(high))
        self.check_crossed(moved(BOW, BIG, 0), moved(WIDE, 0, BIG), BIG)


class ToldListsTest(LayingCase):
    def test_they_are_the_askers_own(self):
        for one, other, turns in ((SQUARE, SHRINKING, True), (WIDE, moved(WIDE, 1, 1), False), (EMPTY, EMPTY, False)):
            first = laid_anew(one, other, turns)
            second = laid_anew(one, other, turns)
            kept = deepcopy(second)
            first[1].clear()
            first[1].append(7)
            self.assertEqual(second, kept)
            self.assertEqual(laid_anew(one, other, turns), kept)

    def test_areas_are_those_of_the_bands(self):
        for one in (HEXAGON, SLANTED, TWISTED, SEVERAL):
            answer = laid_anew(one, one)
            self.assertEqual(told(whole_area([piece for piece, move in answer[1]])), area(bands(one)))
            self.assertEqual(whole_area(home(answer[1])), Fraction(*area(bands(one))))


if __name__ == "__main__":
    unittest.main()
