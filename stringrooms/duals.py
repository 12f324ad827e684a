"""Exchanged plans, in which noughts and ways change places, and rows of noughts."""

from stringrooms.errors import Endless
from stringrooms.ways import nil_row, nought_rounds


def exchanged(plan):
    """Return the plan with arrows turned, what was a nought none and the other way round; Endless for round rows."""
    _check_ends(plan)
    size, arrows, noughts = plan
    pairs = [(second, first) for first, ends in enumerate(arrows) for second, others in enumerate(arrows)
             if ends[1] == others[0] and (first, second) not in noughts]
    return (size, tuple((end, start) for start, end in arrows), tuple(sorted(pairs)))


def _check_ends(plan):
    """Raise Endless if there is a round row of noughts."""
    if nought_rounds(plan):
        raise Endless()


def nought_ways(plan, point, other):
    """Return how many rows of noughts of length 0, 1, .. lead from a point to another one; Endless likewise."""
    _check_ends(plan)
    rows = [nil_row(plan, arrow) for arrow in range(len(plan[1]))]
    told = [0] * (1 + max([len(row) for row in rows], default=0))
    if point == other:
        told[0] = 1
    for row in rows:
        if plan[1][row[0]][0] == point:
            for length, arrow in enumerate(row, start=1):
                if plan[1][arrow][1] == other:
                    told[length] += 1
    return tuple(told)


def signed_ways(plan):
    """Return the table of the numbers of rows of noughts of even length less those of odd length; Endless likewise."""
    _check_ends(plan)
    table = [[1 if point == other else 0 for other in range(plan[0])] for point in range(plan[0])]
    for arrow, (start, _) in enumerate(plan[1]):
        for place, here in enumerate(nil_row(plan, arrow)):
            table[start][plan[1][here][1]] += 1 if place % 2 == 1 else -1
    return tuple(tuple(row) for row in table)
