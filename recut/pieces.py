"""Pieces: tuples (share, corners), convex shapes with straight sides, each told in just one way."""

from recut.ratios import ratio, shared_divisor, shared_multiple


def neighbours(ones):
    return list(zip(ones, ones[1:] + ones[:1]))


# Above 0 where the way from one over middle to other turns left, 0 where it goes straight on or back.
def turn(one, middle, other):
    along = (middle[0] - one[0]) * (other[1] - one[1])
    across = (middle[1] - one[1]) * (other[0] - one[0])
    return along - across


# The last point is left out: the other half of the way round begins with it.
def half_round(points):
    chain = []
    for point in points:
        while len(chain) > 1 and turn(chain[-2], chain[-1], point) <= 0:
            chain.pop()
        chain.append(point)
    return chain[:-1]


# The order of the points does not matter: spots come twice, on sides, and from any corner on.
def outline(points):
    rising = sorted(set(points))
    return half_round(rising) + half_round(list(reversed(rising)))


# The share is divided last, since a point that is no corner may have asked for a greater one.
def settled(share, points):
    corners = outline(points)
    if len(corners) < 3:
        return None
    divisor = share
    for x, y in corners:
        divisor = shared_divisor(shared_divisor(divisor, x), y)
    return (share // divisor, tuple([(x // divisor, y // divisor) for x, y in corners]))


def piece_of(spots):
    share = 1
    for x, y in spots:
        share = shared_multiple(shared_multiple(share, x[1]), y[1])
    return settled(share, [(x[0] * (share // x[1]), y[0] * (share // y[1])) for x, y in spots])


def doubled(piece):
    share = piece[0]
    total = sum([one[0] * other[1] - one[1] * other[0] for one, other in neighbours(piece[1])])
    return ratio(total, share * share)


# How far a times x and b times y come above c at the point over the share, times that share.
def excess(line, point, share):
    return line[0] * point[0] + line[1] * point[1] - line[2] * share


# The lines on which the sides lie, each told so that all of the piece comes to c or less.
def side_lines(piece):
    share = piece[0]
    lines = []
    for one, other in neighbours(piece[1]):
        right = other[0] - one[0]
        up = other[1] - one[1]
        lines.append((share * up, -share * right, up * one[0] - right * one[1]))
    return lines


def lies(piece, spot):
    x = spot[0]
    y = spot[1]
    point = (x[0] * y[1], y[0] * x[1])
    furthest = max([excess(line, point, x[1] * y[1]) for line in side_lines(piece)])
    if furthest == 0:
        return 0
    return 1 if furthest < 0 else -1


# The point where a side meets a line, with the number by which its share is greater than the corners'.
def crossing(one, one_excess, other, other_excess):
    near = abs(one_excess)
    far = abs(other_excess)
    return (one[0] * far + other[0] * near, one[1] * far + other[1] * near, near + far)


# Each point is told as crossing tells it; those of the corners have the piece's own share.
def points_within(corners, excesses):
    points = []
    for one, other in neighbours(list(zip(corners, excesses))):
        if one[1] <= 0:
            points.append((one[0][0], one[0][1], 1))
        if one[1] * other[1] < 0:
            points.append(crossing(one[0], one[1], other[0], other[1]))
    return points


# The part of a piece that comes to the line's c or less, or None where that has no area.
def part_within(piece, line):
    share = piece[0]
    excesses = [excess(line, corner, share) for corner in piece[1]]
    if max(excesses) <= 0:
        return piece
    if min(excesses) >= 0:
        return None
    points = points_within(piece[1], excesses)
    factor = 1
    for point in points:
        factor = factor * point[2]
    grown = [(x * (factor // own), y * (factor // own)) for x, y, own in points]
    return settled(share * factor, grown)


def cut(piece, line):
    opposite = (-line[0], -line[1], -line[2])
    return (part_within(piece, line), part_within(piece, opposite))


def common(one, other):
    rest = one
    for line in side_lines(other):
        rest = part_within(rest, line)
        if rest is None:
            return None
    return rest


def pushed(piece, move):
    dx = move[1]
    dy = move[2]
    share = shared_multiple(shared_multiple(piece[0], dx[1]), dy[1])
    scale = move[0] * (share // piece[0])
    right = dx[0] * (share // dx[1])
    up = dy[0] * (share // dy[1])
    return settled(share, [(scale * x + right, scale * y + up) for x, y in piece[1]])
