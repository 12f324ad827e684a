"""Bends of strings over strings, and the rooms in the middle of their bent sums."""

from stringrooms.layers import cover_points
from stringrooms.pieces import map_number, map_pairs
from stringrooms.plans import ends_of, may_follow
from stringrooms.rests import rest_parts, tail_of
from stringrooms.walks import goings, sizes_of, string_of, turned


def bends(plan, upper, lower):
    """Return how many bends there are with the string upper above and the string lower inside."""
    points, arrows = rest_parts(plan, upper)
    # From the cover of a point there are as many maps as there are places at the point.
    sizes = sizes_of(plan, lower)
    told = map_number(plan, upper, lower) - sum(sizes[point] for point in cover_points(plan, upper))
    told += sum(sizes[point] for point in points)
    return told + sum(map_number(plan, tail_of(plan, arrow), lower) for arrow in arrows)


def has_bent(plan, upper, lower):
    """Tell whether there are any bends of upper over lower."""
    return bends(plan, upper, lower) > 0


def _readings(plan, walk):
    """Return a walk and it turned about; a walk of one place once."""
    return [walk, turned(plan, walk)] if walk[1] else [walk]


def arrow_sums(plan, upper, lower):
    """Return the strings that go upper, an arrow, lower, ascending."""
    found = []
    for first in _readings(plan, upper):
        arrows = [letter for letter in goings(plan, first) if letter >= 0]
        for second in _readings(plan, lower):
            for arrow in arrows:
                if ends_of(plan, arrow)[1] == second[0] and _may_join(plan, (arrow,), second[1]):
                    found.append(string_of(plan, (first[0], first[1] + (arrow,) + second[1])))
    return tuple(sorted(found))


def _may_join(plan, letters, others):
    """Tell whether two rows that meet at a point may stand one behind the other."""
    return not letters or not others or may_follow(plan, letters[-1], others[0])


def crossing_sums(plan, upper, lower):
    """Return the pairs of strings that are made where a piece of lower crosses one of upper, ascending."""
    found = []
    many = len(lower[1])
    about = turned(plan, lower)
    for first, last, start, end, way in map_pairs(plan, lower, upper):
        told = None
        if way == 1:
            told = _crossed(plan, upper, lower, (start, end), (first, last))
        if told is None and (way == -1 or first == last):
            told = _crossed(plan, upper, about, (start, end), (many - last, many - first))
        if told is not None:
            found.append(told)
    return tuple(sorted(found))


def _crossed(plan, upper, lower, high, low):
    """Return the two strings that go over from one walk to the other one in a piece of both, or None."""
    (start, end), (first, last) = high, low
    if start == 0 and first == 0 or end == len(upper[1]) and last == len(lower[1]):
        return None
    one = (upper[1][:end], lower[1][last:])
    other = (lower[1][:first], upper[1][start:])
    if not _may_join(plan, one[0], one[1]) or not _may_join(plan, other[0], other[1]):
        return None
    strings = [string_of(plan, (upper[0], one[0] + one[1])), string_of(plan, (lower[0], other[0] + other[1]))]
    return tuple(sorted(strings))


def middle_rooms(plan, upper, lower):
    """Return the rooms in the middle as tuples of strings, first those of one string, then the pairs."""
    return tuple((string,) for string in arrow_sums(plan, upper, lower)) + crossing_sums(plan, upper, lower)
