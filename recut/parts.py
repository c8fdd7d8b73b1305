"""Bands taken apart into boxes, openings and closings, and these put together into boxes."""

from recut.bands import left_height, lower_slope, right_height, upper_slope
from recut.bits import carried
from recut.errors import Odd
from recut.pieces import piece_of
from recut.ratios import below, minus, plus, rising


def leans_of(ones, others):
    slopes = {}
    for row in ones + others:
        slopes[lower_slope(row)] = True
        slopes[upper_slope(row)] = True
    return rising(list(slopes))


def box_piece(lean, height):
    zero = (0, 1)
    one = (1, 1)
    return piece_of([(zero, zero), (one, lean), (one, plus(lean, height)), (zero, height)])


def opening_piece(lean, steeper):
    return piece_of([((0, 1), (0, 1)), ((1, 1), lean), ((1, 1), steeper)])


def closing_piece(lean, steeper):
    return piece_of([((0, 1), (0, 1)), ((1, 1), steeper), ((0, 1), minus(steeper, lean))])


def shift_to(column, height):
    return (1, (column, 1), height)


# No box where the height is 0: such a band is triangles alone.
def boxes_of(row, height, places):
    lean = lower_slope(row)
    if height == (0, 1):
        return []
    bit = (box_piece(lean, height), shift_to(row[0], row[1]))
    return [(places[lean], height, [bit])]


# Fans of triangles from the upper side's left corner, one for each two neighbouring leans between the sides.
def openings_of(row, leans, places):
    told = []
    for number in range(places[lower_slope(row)], places[upper_slope(row)]):
        piece = opening_piece(leans[number], leans[number + 1])
        told.append((number, (piece, shift_to(row[0], row[3]))))
    return told


# Likewise from the upper side's right corner: a closing has it as high above its lowest one as its steeper lean.
def closings_of(row, leans, places):
    told = []
    for number in range(places[upper_slope(row)], places[lower_slope(row)]):
        piece = closing_piece(leans[number], leans[number + 1])
        told.append((number, (piece, shift_to(row[0], minus(row[4], leans[number + 1])))))
    return told


def parts(rows, leans):
    places = dict([(lean, number) for number, lean in enumerate(leans)])
    boxes = []
    openings = []
    closings = []
    for row in rows:
        height = left_height(row)
        if below(right_height(row), height):
            height = right_height(row)
        boxes.extend(boxes_of(row, height, places))
        openings.extend(openings_of(row, leans, places))
        closings.extend(closings_of(row, leans, places))
    return (boxes, openings, closings)


def bits_by_number(triangles):
    groups = {}
    for number, bit in triangles:
        groups.setdefault(number, []).append(bit)
    return groups


def joined(number, one, other, leans):
    return (number, minus(leans[number + 1], leans[number]), [one, other])


# The triangles of each number beyond the first ones, which are in boxes.
def left_over(groups, partners):
    rest = []
    for number in sorted(list(groups)):
        used = len(partners.get(number, []))
        rest.extend([(number, bit) for bit in groups[number][used:]])
    return rest


def paired(openings, closings, leans):
    opening_bits = bits_by_number(openings)
    closing_bits = bits_by_number(closings)
    boxes = []
    for number in sorted(list(opening_bits)):
        for one, other in zip(opening_bits[number], closing_bits.get(number, [])):
            boxes.append(joined(number, one, other, leans))
    return (boxes, left_over(opening_bits, closing_bits), left_over(closing_bits, opening_bits))


def refuse_odd(groups):
    for number in sorted(list(groups)):
        if len(groups[number]) % 2 == 1:
            raise Odd(number)


# The half turn that makes an opening of that number its closing, and the closing the opening.
def turn_of(number, leans):
    return (-1, (1, 1), leans[number + 1])


def twin_boxes(groups, leans):
    boxes = []
    for number in sorted(list(groups)):
        bits = groups[number]
        for one, other in zip(bits[::2], bits[1::2]):
            boxes.append(joined(number, one, carried(other, turn_of(number, leans)), leans))
    return boxes


def twins(openings, closings, leans):
    opening_bits = bits_by_number(openings)
    closing_bits = bits_by_number(closings)
    refuse_odd(opening_bits)
    refuse_odd(closing_bits)
    return twin_boxes(opening_bits, leans) + twin_boxes(closing_bits, leans)
