"""Rests of rests, however often they are taken."""

from math import lcm

from stringrooms.helping import ring_of
from stringrooms.plans import nil_of
from stringrooms.rests import rest_of, rest_parts, tail_of
from stringrooms.walks import string_of
from stringrooms.ways import nil_row, nought_rounds


def far_rest(plan, walk, steps):
    """Return the strings of the rest of a walk taken so often, ascending; for 0 its string alone."""
    if steps == 0:
        return (string_of(plan, walk),)
    if steps == 1:
        return rest_of(plan, walk)
    # Covers have no rest: from here on there are tails alone.
    return tuple(sorted([tail_of(plan, arrow) for arrow in far_tails(plan, walk, steps)]))


def far_tails(plan, walk, steps):
    """Return the arrows of the tails in the rest of a walk taken so often, from once on, ascending."""
    led = [nil_led(plan, arrow, steps - 1) for arrow in rest_parts(plan, walk)[1]]
    return tuple(sorted([arrow for arrow in led if arrow is not None]))


def nil_led(plan, arrow, steps):
    """Return the arrow to which nil leads an arrow in so many steps, or None."""
    row = nil_row(plan, arrow)
    if steps < len(row):
        return row[steps]
    # At most one arrow has a given nil, so a row that does not end comes back to its beginning.
    return None if nil_of(plan, row[-1]) is None else row[steps % len(row)]


def tail_rows(plan, walk):
    """Return a pair of lists: the nil rows of a walk's tails that end, and those that go round."""
    rows = [nil_row(plan, arrow) for arrow in rest_parts(plan, walk)[1]]
    ending = [row for row in rows if nil_of(plan, row[-1]) is None]
    return (ending, [row for row in rows if nil_of(plan, row[-1]) is not None])


def rest_length(plan, walk):
    """Return the greatest number of times that a walk's rest can be taken so that it is not empty, or None."""
    ending, going = tail_rows(plan, walk)
    if going:
        return None
    some = 1 if rest_of(plan, walk) else 0
    return max([some] + [len(row) for row in ending])


def rest_ring(plan, walk):
    """Return the pair (START, RING) with which the rests of a walk repeat themselves, or None if they end."""
    ending, going = tail_rows(plan, walk)
    if not going:
        return None
    first, period = ring_bounds(ending, going)
    return ring_of([far_rest(plan, walk, steps) for steps in range(first + 2 * period)], first, period)


def ring_bounds(ending, going):
    """Return from which step on the rests come from the rows that go round alone, and the period of these."""
    period = 1
    for row in going:
        period = lcm(period, len(row))
    return (max([2] + [len(row) + 1 for row in ending]), period)


def lasting(plan):
    """Return the strings that are, however often rests are taken, a member of the rest of some walk, ascending."""
    found = {tail_of(plan, arrow): True for row in nought_rounds(plan) for arrow in row}
    return tuple(sorted(found))


def plan_depth(plan):
    """Return the greatest rest_length of all strings, or None if some string has none."""
    if nought_rounds(plan):
        return None
    return max([len(nil_row(plan, arrow)) for arrow in range(len(plan[1]))], default=0)
