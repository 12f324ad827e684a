"""Bends of many steps."""

from stringrooms.bending import bends
from stringrooms.errors import Endless
from stringrooms.farrests import far_rest, far_tails, rest_length, ring_bounds, tail_rows
from stringrooms.helping import ring_of
from stringrooms.pieces import map_number
from stringrooms.rests import tail_of


def far_bends(plan, walk, other, steps):
    """Return the number of bends of so many steps from a walk over another one; for 0 that of maps."""
    if steps == 0:
        return map_number(plan, walk, other)
    return sum(bends(plan, member, other) for member in far_rest(plan, walk, steps - 1))


def _first_bends(plan, walk, other, many):
    """Return the list of far_bends of 0, 1, .. steps, so many of them."""
    told = [far_bends(plan, walk, other, steps) for steps in range(min(many, 3))]
    known = {}
    for steps in range(3, many):
        arrows = far_tails(plan, walk, steps - 1)
        for arrow in arrows:
            if arrow not in known:
                known[arrow] = bends(plan, tail_of(plan, arrow), other)
        told.append(sum(known[arrow] for arrow in arrows))
    return told


def bends_row(plan, walk, other):
    """Return the pair (HEAD, RING): far_bends of 0, 1, 2, .. steps are HEAD and then RING again and again."""
    ending, going = tail_rows(plan, walk)
    first, period = ring_bounds(ending, going)
    # Bends of N steps come from the rest that is taken N - 1 times.
    told = _first_bends(plan, walk, other, first + 1 + 2 * period)
    start, ring = ring_of(told, first + 1, period)
    return (tuple(told[:start]), tuple(told[start:start + ring]))


def bends_form(plan, walk, other):
    """Return far_bends of 0 steps, less that of 1 step, and so on; raise Endless if the rests do not end."""
    many = rest_length(plan, walk)
    if many is None:
        raise Endless()
    told = _first_bends(plan, walk, other, many + 2)
    return sum(told[::2]) - sum(told[1::2])
