"""Cloths told by rings, and the bands that they have in the columns between the threads."""

from recut.errors import Crossed
from recut.ratios import lowest_multiple, minus, plus, ratio, rising, times


# Each side is told from its left corner to its right one.
def sides_of(ring):
    sides = []
    for one, other in zip(ring, ring[1:] + ring[:1]):
        if one[0] < other[0]:
            sides.append((one, other))
        if other[0] < one[0]:
            sides.append((other, one))
    return sides


def sides_by_column(rings):
    columns = {}
    for ring in rings:
        for side in sides_of(ring):
            for column in range(side[0][0], side[1][0]):
                columns.setdefault(column, []).append(side)
    return columns


def width_of(side):
    return side[1][0] - side[0][0]


# A whole number, the height over the bottom, which is a multiple of the side's width.
def height_at(side, thread, bottom):
    left = side[0]
    width = width_of(side)
    climb = (side[1][1] - left[1]) * (thread - left[0])
    return (left[1] * width + climb) * (bottom // width)


# Pairs of heights at the left thread and the right one, from below; two neighbours of them tell of any crossing,
# since the right heights would else rise all the way.
def ordered_heights(sides, column, bottom):
    heights = [(height_at(side, column, bottom), height_at(side, column + 1, bottom)) for side in sides]
    heights = sorted(heights)
    for lower, upper in zip(heights, heights[1:]):
        if upper[1] < lower[1]:
            raise Crossed(column)
    return heights


def column_bands(sides, column):
    bottom = lowest_multiple([width_of(side) for side in sides])
    heights = ordered_heights(sides, column, bottom)
    rows = []
    for low, up in zip(heights[::2], heights[1::2]):
        if low != up:
            edges = [ratio(height, bottom) for height in low + up]
            rows.append((column, edges[0], edges[1], edges[2], edges[3]))
    return rows


def bands(rings):
    columns = sides_by_column(rings)
    rows = []
    for column in sorted(list(columns)):
        rows.extend(column_bands(columns[column], column))
    return rows


def left_height(row):
    return minus(row[3], row[1])


def right_height(row):
    return minus(row[4], row[2])


def lower_slope(row):
    return minus(row[2], row[1])


def upper_slope(row):
    return minus(row[4], row[3])


def area(rows):
    total = (0, 1)
    for row in rows:
        total = plus(total, plus(left_height(row), right_height(row)))
    return times(total, (1, 2))


def leanings(rows):
    numbers = {}
    for row in rows:
        upper = upper_slope(row)
        numbers[upper] = numbers.get(upper, 0) + 1
        lower = lower_slope(row)
        numbers[lower] = numbers.get(lower, 0) - 1
    return [(slope, numbers[slope]) for slope in rising(list(numbers)) if numbers[slope] != 0]
