"""Fractions: tuples (top, bottom) in lowest terms, bottom from 1 on."""

from recut.errors import NoNumber


def shared_divisor(one, other):
    larger = abs(one)
    smaller = abs(other)
    while smaller != 0:
        rest = larger % smaller
        larger = smaller
        smaller = rest
    return larger


def shared_multiple(one, other):
    return one * (other // shared_divisor(one, other))


def ratio(top, bottom):
    if bottom == 0:
        raise NoNumber("a fraction has no bottom of 0")
    divisor = shared_divisor(top, bottom)
    # A divisor of the bottom's sign leaves the bottom above 0.
    if bottom < 0:
        divisor = -divisor
    return (top // divisor, bottom // divisor)


def plus(one, other):
    return ratio(one[0] * other[1] + other[0] * one[1], one[1] * other[1])


def minus(one, other):
    return ratio(one[0] * other[1] - other[0] * one[1], one[1] * other[1])


def times(one, other):
    return ratio(one[0] * other[0], one[1] * other[1])


def over(one, other):
    return ratio(one[0] * other[1], one[1] * other[0])


def below(one, other):
    return one[0] * other[1] < other[0] * one[1]


def floor_of(one):
    return one[0] // one[1]


def lowest_multiple(numbers):
    multiple = 1
    for number in numbers:
        multiple = shared_multiple(multiple, number)
    return multiple


# Tuples are not ordered as fractions are, so the tops are compared over one bottom.
def rising(ones):
    bottom = lowest_multiple([one[1] for one in ones])
    return sorted(ones, key=lambda one: one[0] * (bottom // one[1]))
