"""Tables of the numbers of ways, and of rows of noughts, from point to point."""

from math import gcd

from stringrooms.errors import NoWay
from stringrooms.farrests import nil_led
from stringrooms.helping import solved_whole
from stringrooms.tables import one
from stringrooms.ways import longest_from


def way_table(plan):
    """Return the table of the numbers of ways."""
    table = [list(row) for row in one(plan[0])]
    for arrow, (start, _) in enumerate(plan[1]):
        for behind in longest_from(plan, arrow)[1]:
            table[start][plan[1][behind][1]] += 1
    return tuple(tuple(row) for row in table)


def ways_of_length(plan, steps):
    """Return the table of the numbers of ways of just so many arrows."""
    if steps == 0:
        return one(plan[0])
    rows = [longest_from(plan, arrow)[1] for arrow in range(len(plan[1]))]
    return _ends_table(plan, [row[steps - 1] if steps <= len(row) else None for row in rows])


def nothings_of_length(plan, steps):
    """Return the table of the numbers of rows of just so many arrows, each making a nought with the next one."""
    if steps == 0:
        return one(plan[0])
    return _ends_table(plan, [nil_led(plan, arrow, steps - 1) for arrow in range(len(plan[1]))])


def _ends_table(plan, lasts):
    """Return the table that counts, for each arrow, from where it begins to where its last arrow, if any, ends."""
    table = [[0] * plan[0] for _ in range(plan[0])]
    for (start, _), last in zip(plan[1], lasts):
        if last is not None:
            table[start][plan[1][last][1]] += 1
    return tuple(tuple(row) for row in table)


def way_determinant(plan):
    """Return the determinant of the table of ways."""
    return solved_whole(way_table(plan), one(plan[0]))[0]


def undone_ways(plan):
    """Return as a fraction table the one whose product with the table of ways is plain; NoWay if there is none."""
    # The determinant is 0 or a power of 2.
    whole, rows = solved_whole(way_table(plan), one(plan[0]))
    if whole == 0:
        raise NoWay()
    return fraction_table(rows, whole)


def fraction_table(rows, below):
    """Return the fraction table of a table divided by an integer above 0."""
    shared = below
    for row in rows:
        for entry in row:
            shared = gcd(shared, entry)
    return (tuple(tuple(entry // shared for entry in row) for row in rows), below // shared)
