"""The hull table, which leads the sizes of covers to those of hulls with the sign turned, and its powers."""

from math import lcm

from stringrooms.errors import NoWay
from stringrooms.helping import solved_whole
from stringrooms.tables import one
from stringrooms.threads import hole_pairs
from stringrooms.waytables import fraction_table, way_table


def hull_table(plan):
    """Return the hull table as a fraction table; raise NoWay if the determinant of the table of ways is 0."""
    table = way_table(plan)
    # The determinant is 0 or a power of 2.
    whole, rows = solved_whole(table, [[-entry for entry in column] for column in zip(*table)])
    if whole == 0:
        raise NoWay()
    return fraction_table(rows, whole)


def hull_power(plan, number):
    """Return the fraction table of the hull table taken so often; NoWay likewise.

    Taken as often as the turn tells, the table is one and a table some power
    of which is nothing: so other powers, those below 0 too, are sums with
    binomial numbers.
    """
    table = hull_table(plan)
    turn = _turn(plan)
    around = _less_one(_power(table, turn))
    told = _power(table, number % turn)
    part, choose, done = told, 1, 0
    while any([any(row) for row in part[0]]):
        choose = choose * (number // turn - done) // (done + 1)
        done += 1
        part = _product(part, around)
        told = _sum(told, part, choose)
    return told


def hull_order(plan):
    """Return the least number from 1 for which hull_power is plain, or None if there is none; NoWay likewise."""
    table = hull_table(plan)
    plain = (one(plan[0]), 1)
    order = _turn(plan)
    if _power(table, order) != plain:
        return None
    part = 2
    while part <= order:
        if order % part == 0 and _power(table, order // part) == plain:
            order = order // part
        else:
            part += 1
    return order


def led_sizes(plan, sizes, number):
    """Return the row sizes times hull_power as a pair (ROW, BELOW) in least terms; NoWay likewise."""
    rows, below = hull_power(plan, number)
    row = [sum(entry * size for entry, size in zip(column, sizes)) for column in zip(*rows)]
    told, below = fraction_table([row], below)
    return (told[0], below)


def _turn(plan):
    """Return a number of steps behind which the hull table is one and a table some power of which is nothing.

    The roots of way_polynomial are those of x ** N - 1 and x ** N + 1 for the
    numbers N above 0 of the holes.
    """
    told = 1
    for many, _ in hole_pairs(plan):
        if many > 0:
            told = lcm(told, many)
    return 2 * told


def _product(table, other):
    """Return the product of two fraction tables."""
    lines, below = other
    columns = list(zip(*lines))
    rows = [[sum([first * second for first, second in zip(row, column)]) for column in columns] for row in table[0]]
    return fraction_table(rows, table[1] * below)


def _sum(table, other, number):
    """Return the sum of a fraction table and another one taken so often."""
    rows = [[first * other[1] + second * number * table[1] for first, second in zip(row, line)]
            for row, line in zip(table[0], other[0])]
    return fraction_table(rows, table[1] * other[1])


def _less_one(table):
    """Return the fraction table less the plain one."""
    return _sum(table, (one(len(table[0])), 1), -1)


def _power(table, steps):
    """Return a fraction table taken so often, from 0 times on."""
    told = (one(len(table[0])), 1)
    while steps > 0:
        if steps % 2 == 1:
            told = _product(told, table)
        steps = steps // 2
        if steps > 0:
            table = _product(table, table)
    return told
