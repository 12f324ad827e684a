"""The remains of chains: what is led to nothing, with that to which something is led made nothing."""

from stringrooms.chains import chain_points, chain_turned, degrees
from stringrooms.pieces import piece_of
from stringrooms.plans import mate_of, nil_of
from stringrooms.rests import cover_of
from stringrooms.walks import sizes_of, string_of
from stringrooms.ways import longest_from


def remains_of(plan, chain):
    """Return for each degree from 0 the strings of which the remains are the sum, ascending with repetitions."""
    if not chain[1]:
        return ((cover_of(plan, chain[0]),),)
    points, levels = chain_points(plan, chain), degrees(chain)
    about = chain_turned(plan, chain)
    told = [[] for _ in range(max(levels) + 1)]
    for first, last in _runs(chain[1]):
        walk = _walk_left(plan, points[first], chain[1], about[1], (first, last))
        if walk is not None:
            told[levels[first]].append(string_of(plan, walk))
    return tuple(tuple(sorted(strings)) for strings in told)


def remains_units(plan, chain):
    """Return for each degree from 0 how many units the remains have at each point."""
    told = []
    for strings in remains_of(plan, chain):
        sizes = [sizes_of(plan, string) for string in strings]
        told.append(tuple(sum([row[point] for row in sizes]) for point in range(plan[0])))
    return tuple(told)


def _leads_left(steps, place):
    """Tell whether a place leads to the one ahead: the step between them is along."""
    return place > 0 and steps[place - 1][0] == 1


def _leads_right(steps, place):
    """Tell whether a place leads to the one behind: the step between them is against."""
    return place < len(steps) and steps[place][0] == -1


def _leads_both(steps, place):
    return 0 < place < len(steps) and steps[place - 1][0] == 1 and steps[place][0] == -1


def _runs(steps):
    """Return the pairs of the first and the last place of each run."""
    found = []
    for first in range(len(steps) + 1):
        # Behind a place that leads to both neighbours a run goes on.
        if not _leads_both(steps, first) and not _leads_both(steps, first - 1):
            last = first
            while _leads_both(steps, last + 1):
                last += 2
            found.append((first, last))
    return found


def _walk_left(plan, point, steps, about, run):
    """Return the walk that a run, whose first place lies at a point, leaves, or None; about are the turned steps."""
    first, last = run
    starts, ends = _leads_left(steps, first), _leads_right(steps, last)
    left = () if starts else _row_behind(plan, about, len(steps) - first)
    letters = tuple(-1 - arrow for arrow in left[::-1])
    for place in range(first, last, 2):
        letters = letters + steps[place][1] + tuple(-1 - arrow for arrow in steps[place + 1][1][::-1])
    if not ends:
        letters = letters + _row_behind(plan, steps, last)
    # The end that is led on to another place loses its outermost letter.
    low, high = 1 if starts else 0, len(letters) - (1 if ends else 0)
    if low > high:
        return None
    start = plan[1][left[-1]][1] if left else point
    return piece_of(plan, (start, letters), low, high)


def _row_behind(plan, steps, place):
    """Return the row of a place, the last one of a run, that does not lead to the one behind it."""
    if place < len(steps):
        # The one behind leads here alone: else the run would go on.
        return steps[place][1][:-1]
    turn, way = steps[place - 1]
    arrow = nil_of(plan, way[-1]) if turn == 1 else mate_of(plan, way[0])
    return () if arrow is None else longest_from(plan, arrow)[1]
