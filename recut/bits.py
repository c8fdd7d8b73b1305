"""Bits: tuples (piece, move), whose move leads the piece home."""

from recut.moves import behind, way_back
from recut.pieces import pushed


# The piece lies elsewhere and leads home still: back first, then as before.
def carried(bit, move):
    return (pushed(bit[0], move), behind(way_back(move), bit[1]))


def lifted(bit, height):
    return carried(bit, (1, (0, 1), height))
