"""The blossomed plan and its long walks, which tell strings, marks and ways."""

from stringrooms.errors import NotWalk
from stringrooms.helping import is_below, is_row
from stringrooms.layers import hull_of
from stringrooms.pieces import piece_of
from stringrooms.plans import ends_of, may_follow, next_of
from stringrooms.translating import pulled
from stringrooms.walks import points_of, string_of, turned
from stringrooms.ways import longest_from

MOST_LONG = 400


def blossomed(plan):
    """Return the plan with two arrows ending and two beginning at each point, the new ones with tips of their own."""
    size = plan[0]
    ends = list(plan[1])
    many = size
    noughts = []
    for point in range(size):
        ending = [arrow for arrow, pair in enumerate(plan[1]) if pair[1] == point]
        beginning = [arrow for arrow, pair in enumerate(plan[1]) if pair[0] == point]
        while len(ending) < 2:
            ending.append(len(ends))
            ends.append((many, point))
            many += 1
        while len(beginning) < 2:
            beginning.append(len(ends))
            ends.append((point, many))
            many += 1
        going = _goings_on(plan, ending, beginning)
        noughts.extend([(first, second) for first in ending for second in beginning if going[first] != second])
    return (many, tuple(ends), tuple(sorted(noughts)))


def _goings_on(plan, ending, beginning):
    """Return a dict: with which arrow each one that ends at a point goes on in the blossomed plan."""
    many = len(plan[1])
    going = {arrow: next_of(plan, arrow) for arrow in ending if arrow < many}
    waiting = [arrow for arrow in ending if arrow < many and going[arrow] is None]
    lone = [arrow for arrow in beginning if arrow < many and arrow not in list(going.values())]
    new_ending = [arrow for arrow in ending if arrow >= many]
    new_beginning = [arrow for arrow in beginning if arrow >= many]
    firsts = waiting + new_ending[len(lone):] + new_ending[:len(lone)]
    for first, second in zip(firsts, new_beginning + lone):
        going[first] = second
    return going


def check_long(plan, value):
    """Return the value if it is a long walk of at most 400 letters; raise NotWalk with its place otherwise."""
    if not isinstance(value, tuple) or len(value) != 2:
        raise NotWalk(-1)
    bloom = blossomed(plan)
    point, letters = value
    if not is_below(point, 0, bloom[0]) or not isinstance(letters, tuple) or not 1 <= len(letters) <= MOST_LONG:
        raise NotWalk(-1)
    many = len(bloom[1])
    if not is_row(letters, len(letters), -many, many):
        raise NotWalk(-1)
    for place, letter in enumerate(letters):
        if place == 0:
            fits = ends_of(bloom, letter)[0] == point
        else:
            fits = may_follow(bloom, letters[place - 1], letter)
        if not fits:
            raise NotWalk(place)
    if point < plan[0] or ends_of(bloom, letters[-1])[1] < plan[0]:
        raise NotWalk(len(letters))
    return value


def long_walk(plan, walk):
    """Return the long walk of a walk: in the blossomed plan, it with its pulls at both ends."""
    return long_in(blossomed(plan), walk)


def long_in(bloom, walk):
    """Return the long walk of a walk in the blossomed plan."""
    left, right = pulled(bloom, walk)
    about = turned(bloom, (walk[0], walk[1] + right))
    return string_of(bloom, (about[0], about[1] + left))


def long_mark(plan, point):
    """Return the long walk of the mark of a point: in the blossomed plan, all ways into it."""
    return hull_of(blossomed(plan), point)


def long_ways(plan):
    """Return all long walks whose letters all have one direction, ascending."""
    bloom = blossomed(plan)
    arrows = [arrow for arrow, ends in enumerate(bloom[1]) if ends[0] >= plan[0]]
    return tuple(sorted([string_of(bloom, longest_from(bloom, arrow)) for arrow in arrows]))


def short_of(plan, value):
    """Return what a long walk tells: ("string", STRING), ("less", POINT) or ("way",)."""
    return short_in(blossomed(plan), value)


def short_in(bloom, value):
    """Return what a long walk of the blossomed plan tells.

    It begins with letters along and one against, and ends with one along and
    letters against; the walk stands between these two letters.
    """
    along = [place for place, letter in enumerate(value[1]) if letter >= 0]
    against = [place for place, letter in enumerate(value[1]) if letter < 0]
    if not along or not against:
        return ("way",)
    if along[-1] < against[0]:
        return ("less", ends_of(bloom, value[1][along[-1]])[1])
    return ("string", string_of(bloom, piece_of(bloom, value, against[0] + 1, along[-1])))


def long_sign(plan, value):
    """Return for each point of the plan how many inner tops less inner low places a long walk has there."""
    signs = [0] * plan[0]
    points = points_of(blossomed(plan), value)
    for place in range(1, len(value[1])):
        ahead, behind = value[1][place - 1], value[1][place]
        if ahead < 0 <= behind:
            signs[points[place]] += 1
        if behind < 0 <= ahead:
            signs[points[place]] -= 1
    return tuple(signs)
