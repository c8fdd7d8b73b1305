import unittest
from copy import deepcopy
from fractions import Fraction

from recut.bands import bands
from recut.errors import CutError, Crossed, NoNumber, Odd
from recut.parts import leans_of, paired, parts, twins
from recut.pieces import piece_of
from support import (
    BIG, CLOTHS, DENTED, GROWING, HEXAGON, SHRINKING, SLANTED, SQUARE, Case, closing_ring, home, opening_ring, spot, told,
)

LEANS = [(-2, 1), (-1, 3), (0, 1), (1, 2), (5, 2), (BIG, 7)]
STEEPER_THAN_ANY = (10 ** 80, 3)
FALLING_MORE_THAN_ANY = (-10 ** 80, 3)
MOVES = [
    (1, (0, 1), (0, 1)), (1, (1, 2), (-7, 3)), (-1, (5, 1), (2, 3)), (1, (-4, 1), (9, 1)), (-1, (0, 1), (BIG, 5)),
    (1, (BIG, 1), (0, 1)), (-1, (3, 7), (-1, 2)),
]


def shape(ring):
    return piece_of([spot(x, y) for x, y in ring])


def opening(number, place=0, leans=LEANS):
    return (number, (shape(opening_ring(number, leans)), MOVES[place % len(MOVES)]))


def closing(number, place=0, leans=LEANS):
    return (number, (shape(closing_ring(number, leans)), MOVES[place % len(MOVES)]))


def many(make, counts):
    """As many triangles of each number as told, those of unlike numbers mixed, their moves unlike."""
    made = []
    for again in range(max(counts, default=0)):
        for number, count in enumerate(counts):
            if again < count:
                made.append(make(number, len(made)))
    return made


class LeansOfTest(Case):
    def test_all_slopes_once_and_rising(self):
        for one in CLOTHS:
            for other in CLOTHS:
                ones, others = bands(one), bands(other)
                kept = (list(ones), list(others))
                leans = leans_of(ones, others)
                self.assertEqual((ones, others), kept)
                self.assertIs(type(leans), list)
                slopes = set()
                for row in ones + others:
                    low0, low1, up0, up1 = [Fraction(*height) for height in row[1:]]
                    slopes.add(low1 - low0)
                    slopes.add(up1 - up0)
                self.assertEqual(leans, [told(slope) for slope in sorted(slopes)])
                for lean in leans:
                    self.check_fraction(lean)

    def test_written_leans(self):
        self.assertEqual(leans_of([], []), [])
        self.assertEqual(leans_of(bands(SQUARE), []), [(0, 1)])
        self.assertEqual(leans_of([], bands(SHRINKING)), [(-1, 2), (0, 1)])
        self.assertEqual(leans_of(bands(GROWING), bands(SHRINKING)), [(-1, 2), (0, 1), (2, 1)])
        thirds = [[(0, 0), (3, 1), (0, 1)], [(0, 5), (2, 6), (0, 6)]]
        self.assertEqual(leans_of(bands(thirds), []), [(0, 1), (1, 3), (1, 2)])

    def test_a_told_list_is_the_askers_own(self):
        rows = bands(GROWING)
        first = leans_of(rows, rows)
        kept = list(first)
        first.clear()
        self.assertEqual(leans_of(rows, rows), kept)


class PartsTest(Case):
    def check_parts(self, rings, leans):
        rows = bands(rings)
        kept = deepcopy((rows, leans))
        answer = parts(rows, leans)
        self.assertEqual((rows, leans), kept)
        self.assertIs(type(answer), tuple)
        boxes, openings, closings = answer
        self.assertEqual([type(one) for one in answer], [list, list, list])
        bits = []
        for box in boxes:
            self.check_box(box, leans, 20)
            bits.extend(box[2])
        for triangles, ring in ((openings, opening_ring), (closings, closing_ring)):
            for triangle in triangles:
                self.assertIs(type(triangle), tuple)
                number, bit = triangle
                self.assertIs(type(number), int)
                self.assertIn(number, range(len(leans) - 1))
                self.check_bit(bit)
                self.assertEqual(bit[0], shape(ring(number, leans)))
                bits.append(bit)
        for piece, move in bits:
            self.assertEqual(move[0], 1)
        self.check_cloth(home(bits), rings, 50)
        return answer

    def test_all_cloths_by_their_own_leans(self):
        for rings in CLOTHS:
            rows = bands(rings)
            self.check_parts(rings, leans_of(rows, []))

    def test_all_cloths_by_more_leans(self):
        for rings in CLOTHS:
            leans = leans_of(bands(rings), bands(HEXAGON) + bands(GROWING) + bands(DENTED))
            self.check_parts(rings, [FALLING_MORE_THAN_ANY] + leans + [STEEPER_THAN_ANY])

    def test_no_bands(self):
        self.assertEqual(self.check_parts([], []), ([], [], []))
        self.assertEqual(self.check_parts([], [(0, 1), (1, 1)]), ([], [], []))

    def test_bands_as_high_at_both_threads(self):
        boxes, openings, closings = self.check_parts(SLANTED, [(0, 1), (3, 2), (7, 1)])
        self.assertEqual((openings, closings), ([], []))
        self.assertEqual(sum(Fraction(*box[1]) for box in boxes), 4)
        self.assertEqual(set(box[0] for box in boxes), {1})

    def test_a_height_of_nought_at_the_left(self):
        boxes, openings, closings = self.check_parts([[(0, 0), (1, 0), (1, 3)]], [(0, 1), (1, 1), (3, 1)])
        self.assertEqual((boxes, closings), ([], []))
        self.assertEqual(sorted(number for number, bit in openings), [0, 1])

    def test_a_height_of_nought_at_the_right(self):
        boxes, openings, closings = self.check_parts([[(0, 0), (1, 3), (0, 3)]], [(0, 1), (1, 1), (3, 1)])
        self.assertEqual((boxes, openings), ([], []))
        self.assertEqual(sorted(number for number, bit in closings), [0, 1])

    def test_bands_that_grow_and_shrink_with_heights_at_both_threads(self):
        leans = [(-3, 1), (0, 1), (2, 1), (4, 1)]
        boxes, openings, closings = self.check_parts([[(0, 0), (1, 0), (1, 6), (0, 2)]], leans)
        self.assertEqual(len(openings) - len(closings), 2)
        boxes, openings, closings = self.check_parts([[(0, 0), (1, 4), (1, 5), (0, 8)]], leans)
        self.assertEqual(len(closings) - len(openings), 3)

    def test_told_lists_are_the_askers_own(self):
        rows = bands(DENTED)
        leans = leans_of(rows, [])
        kept = deepcopy(parts(rows, leans))
        first = parts(rows, leans)
        second = parts(rows, leans)
        for box in first[0]:
            box[2].clear()
        for told_list in first:
            told_list.clear()
        self.assertEqual(second, kept)
        self.assertEqual(parts(rows, leans), kept)


class PairedTest(Case):
    def check_paired(self, openings, closings, leans=LEANS):
        kept = deepcopy((openings, closings, leans))
        answer = paired(openings, closings, leans)
        self.assertEqual((openings, closings, leans), kept)
        self.assertIs(type(answer), tuple)
        boxes, opened, closed = answer
        self.assertEqual([type(one) for one in answer], [list, list, list])
        self.assertEqual(set(number for number, bit in opened) & set(number for number, bit in closed), set())
        placed = list(opened) + list(closed)
        for box in boxes:
            self.check_box(box, leans, 20)
            number, height, bits = box
            self.assertEqual(len(bits), 2)
            self.assertEqual(height, told(Fraction(*leans[number + 1]) - Fraction(*leans[number])))
            placed.extend((number, bit) for bit in bits)
            self.assertEqual(len([bit for bit in bits if (number, bit) in openings]), 1)
            self.assertEqual(len([bit for bit in bits if (number, bit) in closings]), 1)
        self.assertEqual(sorted(placed), sorted(openings + closings))
        for triangle in opened:
            self.assertIn(triangle, openings)
        for triangle in closed:
            self.assertIn(triangle, closings)
        return answer

    def check_counts(self, opening_counts, closing_counts, boxes, opened, closed):
        answer = self.check_paired(many(opening, opening_counts), many(closing, closing_counts))
        self.assertEqual([len(one) for one in answer], [boxes, opened, closed])

    def test_none(self):
        self.assertEqual(self.check_paired([], []), ([], [], []))
        self.assertEqual(self.check_paired([], [], []), ([], [], []))

    def test_one_number(self):
        self.check_counts([3], [3], 3, 0, 0)
        self.check_counts([4], [1], 1, 3, 0)
        self.check_counts([1], [4], 1, 0, 3)
        self.check_counts([2], [], 0, 2, 0)
        self.check_counts([], [2], 0, 0, 2)

    def test_several_numbers(self):
        self.check_counts([1, 2, 3, 0, 4], [2, 2, 0, 5, 1], 4, 6, 6)
        self.check_counts([0, 3, 0, 1], [3, 0, 2, 0], 0, 4, 5)
        self.check_counts([5, 5, 5, 5, 5], [5, 5, 5, 5, 5], 25, 0, 0)

    def test_the_same_bit_several_times(self):
        self.check_paired([opening(1)] * 3, [closing(1)] * 2 + [closing(0)])

    def test_parts_of_cloths(self):
        for rings in CLOTHS:
            rows = bands(rings)
            leans = leans_of(rows, bands(HEXAGON))
            boxes, openings, closings = parts(rows, leans)
            answer = self.check_paired(openings, closings, leans)
            self.assertEqual(len(answer[1]) - len(answer[2]), len(openings) - len(closings))

    def test_told_lists_are_the_askers_own(self):
        openings, closings = many(opening, [2, 1]), many(closing, [1, 3])
        kept = deepcopy((openings, closings))
        first = paired(openings, closings, LEANS)
        second = paired(openings, closings, LEANS)
        copied = deepcopy(second)
        for box in first[0]:
            box[2].clear()
        for told_list in first:
            told_list.clear()
        self.assertEqual((openings, closings), kept)
        self.assertEqual(second, copied)
        only = paired(openings, [], LEANS)
        only[1].clear()
        self.assertEqual(openings, kept[0])


class TwinsTest(Case):
    def check_twins(self, openings, closings, leans=LEANS):
        kept = deepcopy((openings, closings, leans))
        boxes = twins(openings, closings, leans)
        self.assertEqual((openings, closings, leans), kept)
        self.assertIs(type(boxes), list)
        self.assertEqual(2 * len(boxes), len(openings) + len(closings))
        for box in boxes:
            self.check_box(box, leans, 20)
            self.assertEqual(box[1], told(Fraction(*leans[box[0] + 1]) - Fraction(*leans[box[0]])))
        at_home = [(box[0], piece) for box in boxes for piece in home(box[2])]
        wanted = [(number, piece) for number, bit in openings + closings for piece in home([bit])]
        self.assertEqual(sorted(at_home), sorted(wanted))
        return boxes

    def check_odd(self, openings, closings, number, leans=LEANS):
        kept = deepcopy((openings, closings, leans))
        for kind in (Odd, CutError, ValueError):
            with self.assertRaises(kind) as caught:
                twins(openings, closings, leans)
            self.assertIs(type(caught.exception), Odd)
            self.assertNotIsInstance(caught.exception, (NoNumber, Crossed))
            self.assertEqual(caught.exception.number, number)
            self.assertIs(type(caught.exception.number), int)
        self.assertEqual((openings, closings, leans), kept)

    def test_none(self):
        self.assertEqual(self.check_twins([], []), [])

    def test_openings(self):
        for number in range(len(LEANS) - 1):
            for count in (2, 4):
                triangles = [opening(number, place) for place in range(count)]
                boxes = self.check_twins(triangles, [])
                self.assertEqual([box[0] for box in boxes], [number] * (count // 2))

    def test_closings(self):
        for number in range(len(LEANS) - 1):
            for count in (2, 4):
                triangles = [closing(number, place) for place in range(count)]
                boxes = self.check_twins([], triangles)
                self.assertEqual([box[0] for box in boxes], [number] * (count // 2))

    def test_several_numbers(self):
        self.check_twins(many(opening, [2, 0, 4, 2]), many(closing, [0, 6, 0, 0, 2]))

    def test_both_of_the_same_number_are_even_each(self):
        self.check_twins(many(opening, [2, 4]), many(closing, [4, 2]))

    def test_odd_openings(self):
        self.check_odd([opening(3)], [], 3)
        self.check_odd(many(opening, [2, 0, 3, 1, 5]), [], 2)
        self.check_odd([opening(4), opening(1), opening(0), opening(0)], [], 1)
        self.check_odd([opening(2)] * 7, many(closing, [2, 2, 2]), 2)

    def test_odd_closings(self):
        self.check_odd([], [closing(3)], 3)
        self.check_odd([], many(closing, [2, 0, 3, 1, 5]), 2)
        self.check_odd(many(opening, [4, 2]), [closing(4), closing(1), closing(0), closing(0)], 1)

    def test_odd_openings_go_ahead_of_odd_closings(self):
        self.check_odd(many(opening, [0, 0, 0, 1]), many(closing, [1, 1]), 3)
        self.check_odd(many(opening, [2, 0, 0, 2, 1]), many(closing, [0, 3]), 4)
        self.check_odd(many(opening, [0, 1]), many(closing, [0, 0, 0, 1]), 1)

    def test_odd_openings_and_odd_closings_of_the_same_number(self):
        self.check_odd([opening(2)], [closing(2)], 2)

    def test_told_lists_are_the_askers_own(self):
        openings, closings = many(opening, [2, 4]), many(closing, [4, 2])
        kept = deepcopy((openings, closings))
        first = twins(openings, closings, LEANS)
        second = twins(openings, closings, LEANS)
        copied = deepcopy(second)
        for box in first:
            box[2].clear()
        first.clear()
        self.assertEqual((openings, closings), kept)
        self.assertEqual(second, copied)


if __name__ == "__main__":
    unittest.main()
