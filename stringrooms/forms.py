"""Plans taken apart, put beside one another, and compared up to renaming."""

from itertools import permutations
from math import factorial

from stringrooms.errors import TooGreat
from stringrooms.plans import MOST_POINTS, ahead_of, is_plan, mate_of, next_of, nil_ahead_of, nil_of, turned_plan

LONE_POINT = (1, (), ())


def row_from(plan, arrow):
    """Return the arrows that hang together with an arrow, in the sequence in which they are met."""
    turned = turned_plan(plan)
    row = [arrow]
    at = 0
    while at < len(row):
        here = row[at]
        met = (next_of(plan, here), nil_of(plan, here), mate_of(turned, here),
               ahead_of(plan, here), nil_ahead_of(plan, here), mate_of(plan, here))
        for other in met:
            if other is not None and other not in row:
                row.append(other)
        at += 1
    return tuple(row)


def _points_in(plan, row):
    """Return the points of a row of arrows as they come in it first."""
    points = []
    for arrow in row:
        for point in plan[1][arrow]:
            if point not in points:
                points.append(point)
    return points


def _part_plan(plan, points, row):
    """Return the plan of these points and arrows, numbered by their sequence."""
    point_at = {point: place for place, point in enumerate(points)}
    arrow_at = {arrow: place for place, arrow in enumerate(row)}
    ends = tuple((point_at[plan[1][arrow][0]], point_at[plan[1][arrow][1]]) for arrow in row)
    pairs = [(arrow_at[first], arrow_at[second]) for first, second in plan[2]
             if first in arrow_at and second in arrow_at]
    return (len(points), ends, tuple(sorted(pairs)))


def numbered(plan, arrow):
    """Return the plan of the arrows that hang together with an arrow, numbered by row_from."""
    row = row_from(plan, arrow)
    return _part_plan(plan, _points_in(plan, row), row)


def parts_of(plan):
    """Return the lots of points that hang together, by their least points."""
    lots = []
    done = {}
    for point in range(plan[0]):
        if point in done:
            continue
        lot = [point]
        done[point] = True
        at = 0
        while at < len(lot):
            for ends in plan[1]:
                if lot[at] in ends:
                    lot.extend([other for other in sorted(set(ends)) if other not in done])
                    done.update({other: True for other in ends})
            at += 1
        lots.append(tuple(sorted(lot)))
    return tuple(lots)


def sub_plan(plan, points):
    """Return the plan of some points, and of all that is between them."""
    row = [arrow for arrow, ends in enumerate(plan[1]) if ends[0] in points and ends[1] in points]
    return _part_plan(plan, points, row)


def without_arrow(plan, arrow):
    """Return the plan without an arrow and its noughts."""
    row = [other for other in range(len(plan[1])) if other != arrow]
    return _part_plan(plan, list(range(plan[0])), row)


def beside(plan, other):
    """Return the plan with the points and arrows of another one behind its own."""
    size, arrows, noughts = plan
    if size + other[0] > MOST_POINTS:
        raise TooGreat(MOST_POINTS)
    many = len(arrows)
    moved_arrows = tuple((start + size, end + size) for start, end in other[1])
    moved_noughts = tuple((first + many, second + many) for first, second in other[2])
    return (size + other[0], arrows + moved_arrows, noughts + moved_noughts)


def _least_parts(plan):
    """Return, ascending, a triple for each part: its form, and its points and arrows in the form's sequence."""
    found = []
    for lot in parts_of(plan):
        row = [arrow for arrow, ends in enumerate(plan[1]) if ends[0] in lot]
        if row:
            form, first = min((numbered(plan, arrow), arrow) for arrow in row)
            told = row_from(plan, first)
            found.append((form, tuple(_points_in(plan, told)), told))
        else:
            found.append((LONE_POINT, lot, ()))
    return sorted(found)


def form_of(plan):
    """Return the form of a plan, which it shares with just the plans that are it renamed."""
    forms = [part[0] for part in _least_parts(plan)]
    told = forms[0]
    for form in forms[1:]:
        told = beside(told, form)
    return told


def renaming(plan, other):
    """Return any pair (points, arrows) with which the plan renamed is the other one, or None."""
    parts = _least_parts(plan)
    others = _least_parts(other)
    if plan[0] != other[0] or [part[0] for part in parts] != [part[0] for part in others]:
        return None
    points = {}
    arrows = {}
    for part, goal in zip(parts, others):
        points.update({old: new for old, new in zip(part[1], goal[1])})
        arrows.update({old: new for old, new in zip(part[2], goal[2])})
    return (tuple(points[point] for point in range(plan[0])),
            tuple(arrows[arrow] for arrow in range(len(plan[1]))))


def symmetry_number(plan):
    """Return how many renamings lead from a plan to itself."""
    told = 1
    times = {}
    for form, _, row in _least_parts(plan):
        # A renaming of a part is told by the arrow to which the first one goes.
        if row:
            told = told * len([arrow for arrow in row if numbered(plan, arrow) == form])
        times[form] = times.get(form, 0) + 1
    for many in times.values():
        told = told * factorial(many)
    return told


def small_plans(size):
    """Return the forms of all plans with so many points, ascending."""
    forms = {}
    for arrows in _arrow_rows(size):
        lots = [()]
        for point in range(size):
            choices = _nought_choices(arrows, point)
            lots = [lot + choice for lot in lots for choice in choices]
        for lot in lots:
            plan = (size, arrows, tuple(sorted(lot)))
            if is_plan(plan):
                forms[form_of(plan)] = True
    return tuple(sorted(forms))


def _arrow_rows(size):
    """Return rows of arrows, at most two beginning and two ending at each point.

    Each such row stands among them after its points are renamed.
    """
    lines = [()]
    for _ in range(size):
        lines = [line + (many,) for line in lines for many in range(3) if sum(line) + many <= 2]
    tables = [()]
    for _ in range(size):
        tables = [table + (line,) for table in tables for line in lines if _has_two_at_most(table + (line,))]
    orders = list(permutations(range(size)))
    rows = []
    for numbers in tables:
        if not any(_reordered(numbers, order) < numbers for order in orders):
            rows.append(tuple((start, end) for start in range(size) for end in range(size)
                              for _ in range(numbers[start][end])))
    return rows


def _has_two_at_most(table):
    """Tell whether no column adds up to more than two."""
    return all(sum(column) <= 2 for column in zip(*table))


def _reordered(table, order):
    return tuple(tuple(table[start][end] for end in order) for start in order)


def _nought_choices(arrows, point):
    """Return all lots of noughts that the arrows at a point may make."""
    ending = [arrow for arrow, ends in enumerate(arrows) if ends[1] == point]
    beginning = [arrow for arrow, ends in enumerate(arrows) if ends[0] == point]
    pairs = [(first, second) for first in ending for second in beginning]
    lots = [()]
    for pair in pairs:
        lots = lots + [lot + (pair,) for lot in lots]
    return [lot for lot in lots if _is_one_each(lot, ending, beginning)]


def _is_one_each(lot, ending, beginning):
    """Tell whether each arrow makes at most one nought, and at most one way, at this point."""
    for first in ending:
        many = len([second for second in beginning if (first, second) in lot])
        if many > 1 or len(beginning) - many > 1:
            return False
    for second in beginning:
        many = len([first for first in ending if (first, second) in lot])
        if many > 1 or len(ending) - many > 1:
            return False
    return True
