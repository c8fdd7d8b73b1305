import unittest
from copy import deepcopy
from fractions import Fraction

from recut.moves import behind, way_back
from recut.pieces import cut, piece_of, pushed
from recut.strips import split, stacked, strip, upright
from support import BIG, Case, box_ring, home, spot, told

LEANS = [(-BIG, 1), (-40, 3), (-5, 2), (-1, 7), (0, 1), (1, 3), (2, 1), (9, 4), (50, 1), (BIG, 2)]
MOVES = [
    (1, (0, 1), (0, 1)), (-1, (5, 1), (2, 3)), (1, (-4, 1), (9, 1)), (1, (1, 2), (-7, 3)), (-1, (-3, 7), (1, 2)),
    (-1, (BIG, 1), (BIG, 5)), (1, (BIG, 1), (0, 1)),
]
LINES = [(0, 1, 0), (2, 0, 1), (3, 1, 1), (-1, 2, 1), (7, -3, 2)]


def box(number, height, place=0, lines=()):
    """The box cut by the lines, and its bits with unlike homes: shifts and half turns."""
    pieces = [piece_of([spot(x, y) for x, y in box_ring(LEANS[number], height)])]
    for line in lines:
        pieces = [part for piece in pieces for part in cut(piece, line) if part is not None]
    bits = [(piece, MOVES[(place + k) % len(MOVES)]) for k, piece in enumerate(pieces)]
    return (number, height, bits)


SMALL = [
    box(4, (1, 1)), box(4, (5, 3), 1, LINES), box(5, (1, 2), 2, LINES[:2]), box(6, (3, 1), 3, LINES[2:]),
    box(2, (4, 7), 4, LINES), box(3, (2, 1), 1, LINES), box(7, (1, 9), 5), box(1, (7, 2), 6, LINES[1:3]),
]
GREAT = [box(0, (BIG, 3), 1, LINES), box(9, (BIG, 1), 2, LINES), box(4, (BIG, BIG + 1), 3, LINES[1:2])]
ALL = SMALL + GREAT


def bits_of(boxes):
    return [bit for one in boxes for bit in one[2]]


def emptied(boxes):
    for one in boxes:
        one[2].clear()


class StackedTest(Case):
    def check_stacked(self, boxes):
        kept = deepcopy(boxes)
        answer = stacked(boxes)
        self.assertEqual(boxes, kept)
        self.assertIs(type(answer), list)
        self.assertEqual([one[0] for one in answer], sorted(set(one[0] for one in boxes)))
        for one in answer:
            parts = [other for other in boxes if other[0] == one[0]]
            self.check_box(one, LEANS)
            self.assertEqual(one[1], told(sum(Fraction(*other[1]) for other in parts)))
            self.assertEqual(sorted(home(one[2])), sorted(home(bits_of(parts))))
            self.assertEqual(sorted(move[0] for piece, move in one[2]), sorted(bit[1][0] for bit in bits_of(parts)))
        return answer

    def test_no_boxes(self):
        self.assertEqual(self.check_stacked([]), [])

    def test_one_box(self):
        for one in ALL:
            self.check_stacked([one])

    def test_boxes_of_one_number(self):
        self.check_stacked([box(4, (1, 1)), box(4, (5, 3), 1, LINES), box(4, (1, 4), 2)])
        self.check_stacked([box(2, (1, 2), 3, LINES), box(2, (9, 1), 4), box(2, (1, 3), 5, LINES[:1])])
        self.check_stacked([box(8, (1, 2), place) for place in range(6)])
        self.check_stacked([box(6, (3, 1))] * 3)

    def test_written_stack(self):
        shift = (1, (7, 1), (1, 1))
        square = (1, ((0, 0), (1, 0), (1, 1), (0, 1)))
        higher = (1, ((0, 0), (1, 0), (1, 2), (0, 2)))
        answer = stacked([(4, (1, 1), [(square, shift)]), (4, (2, 1), [(higher, shift)])])
        self.assertEqual(len(answer), 1)
        number, height, bits = answer[0]
        self.assertEqual((number, height, len(bits)), (4, (3, 1), 2))
        self.assertEqual(sorted(home(bits)), sorted([pushed(square, shift), pushed(higher, shift)]))

    def test_boxes_of_several_numbers(self):
        self.check_stacked(ALL)
        self.check_stacked(ALL[::-1] + SMALL)

    def test_told_lists_are_the_askers_own(self):
        boxes = deepcopy(SMALL)
        first = stacked(boxes)
        second = stacked(boxes)
        kept = deepcopy(second)
        emptied(first)
        first.clear()
        self.assertEqual(boxes, SMALL)
        self.assertEqual(second, kept)
        self.assertEqual(stacked(boxes), kept)


class SplitTest(Case):
    def check_split(self, one, height):
        kept = (deepcopy(one), list(LEANS))
        answer = split(one, height, LEANS)
        self.assertEqual((one, LEANS), kept)
        self.assertIs(type(answer), tuple)
        low, high = answer
        self.check_box(low, LEANS, 30)
        self.check_box(high, LEANS, 30)
        self.assertEqual((low[0], high[0]), (one[0], one[0]))
        self.assertEqual(low[1], height)
        self.assertEqual(high[1], told(Fraction(*one[1]) - Fraction(*height)))
        self.check_same_home(low[2] + high[2], one[2], 30)
        down = (1, (0, 1), told(-Fraction(*height)))
        self.check_parts_of(low[2], one[2])
        self.check_parts_of([(pushed(piece, way_back(down)), behind(down, move)) for piece, move in high[2]], one[2])
        return answer

    def check_parts_of(self, bits, wholes):
        """As they lie in the box, the bits are parts of those that have the same move."""
        for piece, move in bits:
            owners = [whole for whole, other in wholes if other == move]
            self.assertTrue(any(self.lies_in(piece, whole) for whole in owners))

    def lies_in(self, piece, whole):
        corners = [(Fraction(x, piece[0]), Fraction(y, piece[0])) for x, y in piece[1]]
        ring = [(Fraction(x, whole[0]), Fraction(y, whole[0])) for x, y in whole[1]]
        for one, other in zip(ring, ring[1:] + ring[:1]):
            for x, y in corners:
                if (other[0] - one[0]) * (y - one[1]) < (other[1] - one[1]) * (x - one[0]):
                    return False
        return True

    def test_low_middle_and_high(self):
        for one in ALL:
            for top, bottom in ((1, 100), (1, 3), (1, 2), (4, 5), (99, 100), (BIG, BIG + 1)):
                self.check_split(one, told(Fraction(*one[1]) * top / bottom))

    def test_between_two_bits(self):
        two = stacked([box(7, (1, 3), 1), box(7, (2, 3), 2)])[0]
        low, high = self.check_split(two, (1, 3))
        self.assertEqual((len(low[2]), len(high[2])), (1, 1))

    def test_written_split(self):
        leans = [(1, 1)]
        piece = piece_of([spot(0, 0), spot(1, 1), spot(1, 3), spot(0, 2)])
        low, high = split((0, (2, 1), [(piece, (-1, (4, 1), (5, 1)))]), (1, 2), leans)
        self.assertEqual(low, (0, (1, 2), [((2, ((0, 0), (2, 2), (2, 3), (0, 1))), (-1, (4, 1), (5, 1)))]))
        self.assertEqual(high, (0, (3, 2), [((2, ((0, 0), (2, 2), (2, 5), (0, 3))), (-1, (4, 1), (9, 2)))]))

    def test_told_lists_are_the_askers_own(self):
        one = deepcopy(SMALL[1])
        first = split(one, (1, 3), LEANS)
        second = split(one, (1, 3), LEANS)
        kept = deepcopy(second)
        emptied(first)
        self.assertEqual(one, SMALL[1])
        self.assertEqual(second, kept)


class UprightCase(Case):
    def check_filled_upright(self, answer, height, bits, count=60):
        self.assertIs(type(answer), tuple)
        self.assertEqual(len(answer), 2)
        self.check_fraction(answer[0])
        self.assertEqual(answer[0], height)
        self.check_ring(answer[1], box_ring((0, 1), height), count)
        self.check_same_home(answer[1], bits, count)


class UprightTest(UprightCase):
    def check_upright(self, one, count=60):
        kept = (deepcopy(one), list(LEANS))
        answer = upright(one, LEANS)
        self.assertEqual((one, LEANS), kept)
        self.check_filled_upright(answer, one[1], one[2], count)
        return answer

    def test_all_boxes(self):
        for one in ALL:
            self.check_upright(one)

    def test_a_lean_of_nought(self):
        one = box(4, (5, 3), 1, LINES)
        height, bits = self.check_upright(one)
        self.assertEqual(sorted(bits), sorted(one[2]))

    def test_leans_steeper_than_the_height_and_flatter(self):
        for number in (1, 2, 3, 5, 6, 7, 8):
            for height in ((1, 9), (1, 2), (1, 1), (9, 4), (5, 2), (100, 1)):
                self.check_upright(box(number, height, number, LINES[:2]), 12)

    def test_a_lean_of_whole_multiples_of_the_height(self):
        for height in ((2, 1), (1, 1), (2, 3), (1, 5)):
            self.check_upright(box(6, height), 30)

    def test_a_stack(self):
        self.check_upright(stacked([box(7, (1, 3), 1), box(7, (2, 3), 2, LINES), box(7, (1, 8), 3)])[0])

    def test_ten_thousand_times_the_height(self):
        for lean, height in (((10000, 3), (1, 3)), ((-10000 * BIG, 1), (BIG, 1))):
            ring = [spot(x, y) for x, y in box_ring(lean, height)]
            one = (0, height, [(piece_of(ring), MOVES[1])])
            told_height, bits = upright(one, [lean])
            self.assertEqual(told_height, height)
            self.check_ring(bits, box_ring((0, 1), height), 4)
            self.check_same_home(bits, one[2], 4)

    def test_told_lists_are_the_askers_own(self):
        for original in (SMALL[0], SMALL[1], SMALL[4]):
            one = deepcopy(original)
            first = upright(one, LEANS)
            second = upright(one, LEANS)
            kept = deepcopy(second)
            first[1].clear()
            self.assertEqual(one, original)
            self.assertEqual(second, kept)


class StripTest(UprightCase):
    def check_strip(self, boxes, count=60):
        kept = deepcopy(boxes)
        answer = strip(boxes, LEANS)
        self.assertEqual(boxes, kept)
        self.check_filled_upright(answer, told(sum(Fraction(*one[1]) for one in boxes)), bits_of(boxes), count)

    def test_no_boxes(self):
        self.assertEqual(strip([], LEANS), ((0, 1), []))
        self.assertEqual(strip([], []), ((0, 1), []))

    def test_one_box(self):
        for one in ALL:
            self.check_strip([one], 30)

    def test_one_number(self):
        self.check_strip([box(2, (1, 2), 3, LINES), box(2, (9, 1), 4), box(2, (1, 3), 5, LINES[:1])])

    def test_several_numbers(self):
        self.check_strip(SMALL)
        self.check_strip(SMALL[::-1] + SMALL[2:5])
        self.check_strip(GREAT, 30)
        self.check_strip([box(number, (1, 1), number) for number in range(1, 9)] * 2)

    def test_told_lists_are_the_askers_own(self):
        boxes = deepcopy(SMALL)
        first = strip(boxes, LEANS)
        second = strip(boxes, LEANS)
        kept = deepcopy(second)
        first[1].clear()
        self.assertEqual(boxes, SMALL)
        self.assertEqual(second, kept)
        empty = strip([], LEANS)
        empty[1].append(1)
        self.assertEqual(strip([], LEANS), ((0, 1), []))


if __name__ == "__main__":
    unittest.main()
