"""Boxes stacked, split, set upright and put on one another as strips."""

from recut.bits import lifted
from recut.pieces import cut
from recut.ratios import floor_of, minus, over, plus, ratio, times


def stack(boxes):
    height = (0, 1)
    bits = []
    for box in boxes:
        bits.extend([lifted(bit, height) for bit in box[2]])
        height = plus(height, box[1])
    return (boxes[0][0], height, bits)


def stacked(boxes):
    groups = {}
    for box in boxes:
        groups.setdefault(box[0], []).append(box)
    return [stack(groups[number]) for number in sorted(list(groups))]


# It meets the left thread at the height, and what comes to more lies above it.
def slanted_line(lean, height):
    return (-lean[0] * height[1], lean[1] * height[1], lean[1] * height[0])


def split(box, height, leans):
    line = slanted_line(leans[box[0]], height)
    down = minus((0, 1), height)
    lower = []
    upper = []
    for piece, move in box[2]:
        halves = cut(piece, line)
        if halves[0] is not None:
            lower.append((halves[0], move))
        if halves[1] is not None:
            upper.append(lifted((halves[1], move), down))
    return ((box[0], height, lower), (box[0], minus(box[1], height), upper))


def lowest(piece):
    return ratio(min([y for x, y in piece[1]]), piece[0])


# The parts of a bit between the level lines at the multiples of the height, each put down or up between 0 and it.
def levelled(bit, height):
    rest = bit[0]
    level = floor_of(over(lowest(rest), height))
    told = []
    while rest is not None:
        halves = cut(rest, (0, height[1], (level + 1) * height[0]))
        told.append(lifted((halves[0], bit[1]), times(height, (-level, 1))))
        rest = halves[1]
        level = level + 1
    return told


def upright(box, leans):
    bits = []
    for bit in box[2]:
        bits.extend(levelled(bit, box[1]))
    return (box[1], bits)


def strip(boxes, leans):
    height = (0, 1)
    bits = []
    for box in stacked(boxes):
        told = upright(box, leans)
        bits.extend([lifted(bit, height) for bit in told[1]])
        height = plus(height, told[0])
    return (height, bits)
