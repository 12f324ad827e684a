"""Signs of walks, and which walks are at peace with themselves and one another."""

from stringrooms.layers import cover_points
from stringrooms.pieces import map_number, part_number
from stringrooms.rests import rest_parts
from stringrooms.translating import back
from stringrooms.walks import strings_upto


def sign_of(plan, walk):
    """Return for each point how many tops, less inner low places and ends of tails' arrows, lie there."""
    signs = [0] * plan[0]
    for point in cover_points(plan, walk):
        signs[point] += 1
    points, arrows = rest_parts(plan, walk)
    for point in points:
        signs[point] -= 1
    for arrow in arrows:
        signs[plan[1][arrow][1]] -= 1
    return tuple(signs)


def stops(plan, other, walk):
    """Return how many maps another walk has to back of a walk; 0 if the walk is a cover."""
    before = back(plan, walk)
    return 0 if before is None else map_number(plan, other, before)


def part_stops(plan, prime, part, walk):
    """Return how many maps a part has to back of a walk; 0 if the walk is a cover."""
    before = back(plan, walk)
    return 0 if before is None else part_number(plan, prime, part, ("string", before))


def is_peaceful(plan, walk):
    """Tell whether a walk is at peace with itself."""
    return stops(plan, walk, walk) == 0


def are_peaceful(plan, walk, other):
    """Tell whether two walks are at peace with one another."""
    return stops(plan, walk, other) == 0 and stops(plan, other, walk) == 0


def peaceful(plan, length):
    """Return all strings of at most so many letters that are at peace with themselves, ascending; TooGreat(2000)."""
    return tuple(string for string in strings_upto(plan, length) if is_peaceful(plan, string))


def signed(plan, signs, length):
    """Return the string of peaceful with these signs, or None; TooGreat(2000) likewise."""
    for string in strings_upto(plan, length):
        if sign_of(plan, string) == signs and is_peaceful(plan, string):
            return string
    return None
