"""Plans: points, arrows and noughts, and the letters that read the arrows."""

from stringrooms.errors import NotMap, NotPlan
from stringrooms.helping import is_below, is_each_once, is_row

MOST_POINTS = 12
MOST_ARROWS = 24


def check_plan(value):
    """Return the value if it is a plan; raise NotPlan for the first rule that is broken."""
    _check_form(value)
    size, arrows, noughts = value
    _check_arrows(size, arrows)
    _check_noughts(arrows, noughts)
    _check_two(size, arrows)
    _check_one(arrows, noughts)
    _check_ends(value)
    return value


def _check_form(value):
    if not isinstance(value, tuple) or len(value) != 3:
        raise NotPlan("form", -1)
    size, arrows, noughts = value
    if not is_below(size, 1, MOST_POINTS + 1):
        raise NotPlan("form", -1)
    if not isinstance(arrows, tuple) or len(arrows) > MOST_ARROWS:
        raise NotPlan("form", -1)
    if not isinstance(noughts, tuple):
        raise NotPlan("form", -1)


def _check_arrows(size, arrows):
    for place, pair in enumerate(arrows):
        if not is_row(pair, 2, 0, size):
            raise NotPlan("arrow", place)


def _check_noughts(arrows, noughts):
    for place, pair in enumerate(noughts):
        if not is_row(pair, 2, 0, len(arrows)):
            raise NotPlan("nought", place)
        if arrows[pair[0]][1] != arrows[pair[1]][0]:
            raise NotPlan("nought", place)
        if place > 0 and pair <= noughts[place - 1]:
            raise NotPlan("nought", place)


def _check_two(size, arrows):
    for point in range(size):
        beginning = [pair for pair in arrows if pair[0] == point]
        ending = [pair for pair in arrows if pair[1] == point]
        if len(beginning) > 2 or len(ending) > 2:
            raise NotPlan("two", point)


def _check_one(arrows, noughts):
    for arrow, ends in enumerate(arrows):
        ahead = [other for other, pair in enumerate(arrows) if pair[1] == ends[0]]
        behind = [other for other, pair in enumerate(arrows) if pair[0] == ends[1]]
        nil_ahead = [other for other in ahead if (other, arrow) in noughts]
        nil_behind = [other for other in behind if (arrow, other) in noughts]
        if len(nil_ahead) > 1 or len(ahead) - len(nil_ahead) > 1:
            raise NotPlan("one", arrow)
        if len(nil_behind) > 1 or len(behind) - len(nil_behind) > 1:
            raise NotPlan("one", arrow)


def _check_ends(plan):
    for arrow in range(len(plan[1])):
        behind = next_of(plan, arrow)
        # One goes on to at most one: who comes back does so within all arrows.
        for _ in plan[1]:
            if behind is None:
                break
            if behind == arrow:
                raise NotPlan("ends", arrow)
            behind = next_of(plan, behind)


def is_plan(value):
    """Tell whether a value is a plan."""
    try:
        check_plan(value)
    except NotPlan:
        return False
    return True


def ends_of(plan, letter):
    """Return the points at which a letter begins and ends."""
    if letter >= 0:
        return plan[1][letter]
    start, end = plan[1][-1 - letter]
    return (end, start)


def next_of(plan, arrow):
    """Return the arrow that goes on from this one to a way, or None."""
    end = plan[1][arrow][1]
    for other, ends in enumerate(plan[1]):
        if ends[0] == end and (arrow, other) not in plan[2]:
            return other
    return None


def nil_of(plan, arrow):
    """Return the arrow behind this one that makes a nought with it, or None."""
    for first, second in plan[2]:
        if first == arrow:
            return second
    return None


def ahead_of(plan, arrow):
    """Return the arrow whose next is this one, or None."""
    start = plan[1][arrow][0]
    for other, ends in enumerate(plan[1]):
        if ends[1] == start and (other, arrow) not in plan[2]:
            return other
    return None


def nil_ahead_of(plan, arrow):
    """Return the arrow whose nil is this one, or None."""
    for first, second in plan[2]:
        if second == arrow:
            return first
    return None


def mate_of(plan, letter):
    """Return the other letter of the same direction that begins where the letter begins, or None."""
    if letter >= 0:
        side, arrow = 0, letter
    else:
        side, arrow = 1, -1 - letter
    for other, ends in enumerate(plan[1]):
        if other != arrow and ends[side] == plan[1][arrow][side]:
            return other if letter >= 0 else -1 - other
    return None


def may_follow(plan, letter, other):
    """Tell whether the row letter, other is the row of a walk."""
    if ends_of(plan, letter)[1] != ends_of(plan, other)[0] or other == -1 - letter:
        return False
    if letter >= 0 and other >= 0:
        return (letter, other) not in plan[2]
    if letter < 0 and other < 0:
        return (-1 - other, -1 - letter) not in plan[2]
    return True


def followers(plan, letter):
    """Return all letters that may follow a letter, ascending."""
    reading = from_point(plan, ends_of(plan, letter)[1])
    return tuple(other for other in reading if may_follow(plan, letter, other))


def from_point(plan, point):
    """Return all letters that begin at a point, ascending."""
    along = [arrow for arrow, ends in enumerate(plan[1]) if ends[0] == point]
    against = [-1 - arrow for arrow, ends in enumerate(plan[1]) if ends[1] == point]
    return tuple(against[::-1] + along)


def follow_table(plan):
    """Return a list with the followers of each letter.

    Letters along are indexes from the front; letters against are below 0, and
    are indexes from the back.
    """
    many = len(plan[1])
    starts = [from_point(plan, point) for point in range(plan[0])]
    table = []
    for letter in list(range(many)) + list(range(-many, 0)):
        reading = starts[ends_of(plan, letter)[1]]
        table.append(tuple(other for other in reading if may_follow(plan, letter, other)))
    return table


def turned_plan(plan):
    """Return the plan with each arrow turned."""
    size, arrows, noughts = plan
    turned = tuple((end, start) for start, end in arrows)
    return (size, turned, tuple(sorted((second, first) for first, second in noughts)))


def renamed(plan, points, arrows):
    """Return the plan with its points and its arrows numbered anew; raise NotMap for no renaming."""
    size, ends, noughts = plan
    if not is_each_once(points, size):
        raise NotMap(0)
    if not is_each_once(arrows, len(ends)):
        raise NotMap(1)
    told = {arrows[arrow]: (points[start], points[end]) for arrow, (start, end) in enumerate(ends)}
    pairs = sorted((arrows[first], arrows[second]) for first, second in noughts)
    return (size, tuple(told[arrow] for arrow in range(len(ends))), tuple(pairs))
