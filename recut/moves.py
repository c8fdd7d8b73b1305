"""Moves: tuples (sign, dx, dy) that lead the spot (x, y) to (sign * x + dx, sign * y + dy)."""

from recut.ratios import plus


def signed(sign, one):
    return (sign * one[0], one[1])


def led(move, spot):
    sign = move[0]
    return (plus(signed(sign, spot[0]), move[1]), plus(signed(sign, spot[1]), move[2]))


# The second move turns the first one's shift as it turns any spot, and so leads it on.
def behind(first, second):
    shift = led(second, (first[1], first[2]))
    return (first[0] * second[0], shift[0], shift[1])


# A sign is its own inverse, so the way back has the same one.
def way_back(move):
    sign = move[0]
    return (sign, signed(-sign, move[1]), signed(-sign, move[2]))
