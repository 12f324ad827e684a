"""Ways: points, and rows of arrows without noughts, told as walks."""

from stringrooms.errors import NoWay, Unlike
from stringrooms.plans import ahead_of, ends_of, next_of, nil_of


def longest_from(plan, arrow):
    """Return the way of an arrow, next, next of next, .. to its end."""
    row = []
    here = arrow
    while here is not None:
        row.append(here)
        here = next_of(plan, here)
    return (plan[1][arrow][0], tuple(row))


def ways_from(plan, point):
    """Return all ways that begin at a point: the point, then arrow by arrow, the shorter ones first."""
    ways = [(point, ())]
    for arrow, ends in enumerate(plan[1]):
        if ends[0] == point:
            row = longest_from(plan, arrow)[1]
            ways.extend([(point, row[:many]) for many in range(1, len(row) + 1)])
    return tuple(ways)


def ways_into(plan, point):
    """Return all ways that end at a point, ascending."""
    ways = [(point, ())]
    for arrow, ends in enumerate(plan[1]):
        if ends[1] == point:
            row = ()
            here = arrow
            while here is not None:
                row = (here,) + row
                ways.append((plan[1][here][0], row))
                here = ahead_of(plan, here)
    return tuple(sorted(ways))


def ways_between(plan, point, other):
    """Return the ways from a point to another one, in the sequence of ways_from."""
    return tuple(way for way in ways_from(plan, point) if _end_of_way(plan, way) == other)


def _end_of_way(plan, way):
    return ends_of(plan, way[1][-1])[1] if way[1] else way[0]


def way_number(plan):
    """Return how many ways a plan has."""
    return sum(len(ways_from(plan, point)) for point in range(plan[0]))


def is_way(plan, walk):
    """Tell whether a walk has no letter against."""
    many = len(plan[1])
    return all(0 <= letter < many for letter in walk[1])


def way_behind(plan, walk, other):
    """Return the way that goes a way and then another one, or None if it is nothing."""
    if not is_way(plan, walk) or not is_way(plan, other):
        raise NoWay()
    if _end_of_way(plan, walk) != other[0]:
        raise Unlike()
    if walk[1] and other[1] and (walk[1][-1], other[1][0]) in plan[2]:
        return None
    return (walk[0], walk[1] + other[1])


def nil_row(plan, arrow):
    """Return arrow, nil, nil of nil, .. to the end or until one comes again."""
    row = [arrow]
    here = nil_of(plan, arrow)
    while here is not None and here not in row:
        row.append(here)
        here = nil_of(plan, here)
    return tuple(row)


def nought_rounds(plan):
    """Return all round rows of noughts, each begun with its least arrow, ascending."""
    rounds = []
    for arrow in range(len(plan[1])):
        row = nil_row(plan, arrow)
        if nil_of(plan, row[-1]) == arrow and arrow == min(row):
            rounds.append(row)
    return tuple(rounds)
