"""Kisses of long walks: pieces of theirs that read alike, on top in one and low in the other one."""

from stringrooms.blossoms import blossomed
from stringrooms.pieces import map_pairs


def kissing(plan, value, other):
    """Return the kisses (I, J, K, L, WAY) of a long walk over another one, ascending."""
    last, end = len(value[1]), len(other[1])
    # A kiss is a pair of pieces, let go and taken in, without a first or a last place.
    return tuple(pair for pair in map_pairs(blossomed(plan), value, other)
                 if pair[0] > 0 and pair[1] < last and pair[2] > 0 and pair[3] < end)


def kisses(plan, value, other):
    """Return how many kisses a long walk has over another one."""
    return len(kissing(plan, value, other))
