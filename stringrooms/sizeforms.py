"""The form of units: numbers of maps less numbers of bends, with signs in turn, told by units alone."""

from stringrooms.duals import signed_ways


def form_table(plan):
    """Return the table of the signed numbers of rows of noughts; Endless for a round row of noughts."""
    return signed_ways(plan)


def size_form(plan, units, others):
    """Return the sum over all points of units times the entry of form_table times others; Endless likewise."""
    return sum(unit * entry * other for unit, row in zip(units, form_table(plan)) for entry, other in zip(row, others))


def own_form(plan, units):
    """Return size_form of units with themselves; Endless likewise."""
    return size_form(plan, units, units)
