"""Cloths laid as one another: the pieces with their moves, or what shows that there are none."""

from recut.bands import area, bands, leanings
from recut.moves import behind, way_back
from recut.parts import leans_of, paired, parts, twins
from recut.pieces import common, pushed, settled
from recut.ratios import below, rising, times
from recut.strips import split, stacked, strip


# Whole numbers round a bit's piece, in steps of one over fine: left, right, low, up. Rounded outward, so that pieces
# with something in common have frames that overlap.
def framed(bit, fine):
    share = bit[0][0]
    across = [x * fine for x, y in bit[0][1]]
    along = [y * fine for x, y in bit[0][1]]
    return (min(across) // share, -(-max(across) // share), min(along) // share, -(-max(along) // share), bit)


def framed_rising(bits, fine):
    return sorted([framed(bit, fine) for bit in bits], key=lambda frame: frame[2])


# Most bits are far from one another: a walk upward keeps at hand the others that may still be met.
def near_pairs(ones, others):
    fine = max([bit[0][0] for bit in ones + others], default=1)
    waiting = framed_rising(others, fine)
    place = 0
    near = []
    pairs = []
    for left, right, low, up, bit in framed_rising(ones, fine):
        while place < len(waiting) and waiting[place][2] < up:
            near.append(waiting[place])
            place = place + 1
        near = [frame for frame in near if low < frame[3]]
        met = [frame for frame in near if frame[2] < up and frame[0] < right and left < frame[1]]
        pairs.extend([(bit, frame[4]) for frame in met])
    return pairs


def laid_over(ones, others):
    told = []
    for one, other in near_pairs(ones, others):
        piece = common(one[0], other[0])
        if piece is not None:
            told.append((pushed(piece, one[1]), behind(way_back(one[1]), other[1])))
    return told


# The boxes of a cloth, with the openings and the closings that no other triangle of the cloth makes a box with.
def taken_apart(rows, leans):
    told = parts(rows, leans)
    rest = paired(told[1], told[2], leans)
    return (told[0] + rest[0], rest[1], rest[2])


# Both lists have as many of each number.
def laid_triangles(ones, others):
    told = []
    first = sorted(ones, key=lambda triangle: triangle[0])
    second = sorted(others, key=lambda triangle: triangle[0])
    for one, other in zip(first, second):
        told.extend(laid_over([one[1]], [other[1]]))
    return told


# The bits of a box up to the height, and a list of what is left of it above.
def lower_part(box, height, leans):
    if below(height, box[1]):
        halves = split(box, height, leans)
        return (halves[0][2], [halves[1]])
    return (box[2], [])


def lesser(one, other):
    return one if below(one, other) else other


def boxes_by_number(boxes):
    return dict([(box[0], box) for box in stacked(boxes)])


# Both lists of boxes come to the same height, so the strips of what is left do, too.
def laid_boxes(ones, others, leans):
    first = boxes_by_number(ones)
    second = boxes_by_number(others)
    shared = [number for number in first if number in second]
    rest_ones = [first[number] for number in first if number not in second]
    rest_others = [second[number] for number in second if number not in first]
    told = []
    for number in shared:
        height = lesser(first[number][1], second[number][1])
        one = lower_part(first[number], height, leans)
        other = lower_part(second[number], height, leans)
        told.extend(laid_over(one[0], other[0]))
        rest_ones.extend(one[1])
        rest_others.extend(other[1])
    return told + laid_over(strip(rest_ones, leans)[1], strip(rest_others, leans)[1])


def laid_by_shifts(ones, others):
    leans = leans_of(ones, others)
    first = taken_apart(ones, leans)
    second = taken_apart(others, leans)
    triangles = laid_triangles(first[1], second[1]) + laid_triangles(first[2], second[2])
    return triangles + laid_boxes(first[0], second[0], leans)


# On doubled threads each slope comes twice as often, so that no triangle is left without a twin.
def widened(ring):
    return [(2 * x, y) for x, y in ring]


def narrowed(piece, move):
    narrow = settled(2 * piece[0], [(x, 2 * y) for x, y in piece[1]])
    return (narrow, (move[0], times(move[1], (1, 2)), move[2]))


def all_boxes(rows, leans):
    told = taken_apart(rows, leans)
    return told[0] + twins(told[1], told[2], leans)


def laid_by_turns(one, other):
    ones = bands([widened(ring) for ring in one])
    others = bands([widened(ring) for ring in other])
    leans = leans_of(ones, others)
    told = laid_boxes(all_boxes(ones, leans), all_boxes(others, leans), leans)
    return [narrowed(piece, move) for piece, move in told]


# The first slope at which the leanings are unlike, with both numbers, or None.
def first_gap(ones, others):
    first = dict(leanings(ones))
    second = dict(leanings(others))
    for slope in rising(list(first) + list(second)):
        if first.get(slope, 0) != second.get(slope, 0):
            return (slope, first.get(slope, 0), second.get(slope, 0))
    return None


# Shifts do where the leanings are alike, whether turns are allowed or not; and they cut less.
def laid_anew(one, other, turns=False):
    ones = bands(one)
    others = bands(other)
    if area(ones) != area(others):
        return ("area", area(ones), area(others))
    gap = first_gap(ones, others)
    if gap is None:
        return ("laid", laid_by_shifts(ones, others))
    if turns:
        return ("laid", laid_by_turns(one, other))
    return ("leaning", gap[0], gap[1], gap[2])
