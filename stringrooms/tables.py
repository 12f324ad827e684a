"""Tables of numbers modulo a prime: products, undone tables, polynomials of tables, lots of rows."""

from stringrooms.errors import NoWay
from stringrooms.fields import factors, leading_places, kernel, poly_times, rank, reduced, undone_number


def flipped(rows, width):
    """Return rows and columns exchanged; width is the number of columns."""
    return tuple(tuple(row[place] for row in rows) for place in range(width))


def times(rows, others, prime, width):
    """Return the product of two tables; width is the number of columns of the second one."""
    return tuple(led_row(row, others, prime, width) for row in rows)


def led_row(row, table, prime, width):
    """Return the row to which a table of so many columns leads a row."""
    told = [0] * width
    for entry, line in zip(row, table):
        if entry > 0:
            told = [old + entry * new for old, new in zip(told, line)]
    return tuple(entry % prime for entry in told)


def one(size):
    """Return the table that leads each unit to itself."""
    return tuple(tuple(1 if place == other else 0 for other in range(size)) for place in range(size))


def solved(rows, prime, goal):
    """Return the row that is led to goal, with 0 at rows that are sums of rows ahead; raise NoWay for none."""
    many = len(rows)
    kept = {}
    for row, unit in zip(rows, one(many)):
        rest, told = _less_kept(kept, prime, list(row), list(unit))
        leading = [place for place, entry in enumerate(rest) if entry > 0]
        if leading:
            factor = undone_number(prime, rest[leading[0]])
            kept[leading[0]] = ([entry * factor % prime for entry in rest],
                                [entry * factor % prime for entry in told])
    rest, told = _less_kept(kept, prime, list(goal), [0] * many)
    if any(rest):
        raise NoWay()
    return tuple(-entry % prime for entry in told)


def _less_kept(kept, prime, row, told):
    """Return a row less the kept rows with which it has 0 at their leading places, and the same done to told."""
    for place in sorted(kept):
        entry = row[place]
        if entry > 0:
            base, sums = kept[place]
            row = [(old - entry * new) % prime for old, new in zip(row, base)]
            told = [(old - entry * new) % prime for old, new in zip(told, sums)]
    return row, told


def undo(rows, prime):
    """Return the undone table of a square one; raise NoWay if there is none."""
    size = len(rows)
    base = reduced(tuple(tuple(row) + unit for row, unit in zip(rows, one(size))), prime)
    if leading_places(base) != list(range(size)):
        raise NoWay()
    return tuple(row[size:] for row in base)


def determinant(rows, prime):
    """Return the determinant of a square table; 1 for ()."""
    left = [list(row) for row in rows]
    told = 1
    for place in range(len(rows)):
        fitting = [at for at in range(place, len(left)) if left[at][place] > 0]
        if not fitting:
            return 0
        if fitting[0] > place:
            left[place], left[fitting[0]] = left[fitting[0]], left[place]
            told = -told
        base = left[place]
        told = told * base[place] % prime
        factor = undone_number(prime, base[place])
        for at in range(place + 1, len(left)):
            entry = left[at][place] * factor
            left[at] = [(old - entry * new) % prime for old, new in zip(left[at], base)]
    return told % prime


def power(rows, prime, steps):
    """Return a power of a square table."""
    size = len(rows)
    told = one(size)
    while steps > 0:
        if steps % 2 == 1:
            told = times(told, rows, prime, size)
        steps = steps // 2
        if steps > 0:
            rows = times(rows, rows, prime, size)
    return told


def own_poly(rows, prime):
    """Return the polynomial det(x - T) of a square table T."""
    size = len(rows)
    told = ()
    met = ()
    # Row after row that is led on makes a lot that is led into itself: what it
    # has more than those before has one factor of the polynomial.
    for unit in one(size):
        row = unit
        new = ()
        while rank(met + new + (row,), prime) > len(met) + len(new):
            new = new + (row,)
            row = led_row(row, rows, prime, size)
        if new:
            numbers = solved(met + new, prime, row)[len(met):]
            told = poly_times(prime, told, tuple(-entry % prime for entry in numbers))
            met = met + new
    return told


def least_poly(rows, prime):
    """Return the monic polynomial F of least degree for which F(T) is nothing."""
    size = len(rows)
    table = one(size)
    met = ()
    while True:
        row = tuple(entry for line in table for entry in line)
        if rank(met + (row,), prime) == len(met):
            return tuple(-entry % prime for entry in solved(met, prime, row))
        met = met + (row,)
        table = times(table, rows, prime, size)


def poly_at(rows, prime, poly):
    """Return F(T) for a square table T and a polynomial F."""
    size = len(rows)
    told = one(size)
    for number in poly[::-1]:
        product = times(told, rows, prime, size)
        told = tuple(tuple((entry + number * unit) % prime for entry, unit in zip(line, units))
                     for line, units in zip(product, one(size)))
    return told


def poly_table(prime, poly):
    """Return the table that leads each unit to the next one, and the last one so that poly of it is nothing."""
    last = tuple(-entry % prime for entry in poly)
    return one(len(poly))[1:] + (last,) if poly else ()


def divisors(rows, prime):
    """Return the triples (IRREDUCIBLE, POWER, HOW OFTEN) of a square table.

    How often a power comes is read off the ranks of the powers of what the
    irreducible polynomial makes of the table.
    """
    size = len(rows)
    found = []
    for factor, _ in factors(prime, own_poly(rows, prime)):
        table = poly_at(rows, prime, factor)
        led = table
        ranks = [size, rank(table, prime)]
        while ranks[-1] < ranks[-2]:
            led = times(led, table, prime, size)
            ranks.append(rank(led, prime))
        for step in range(1, len(ranks) - 1):
            many = (ranks[step - 1] - 2 * ranks[step] + ranks[step + 1]) // len(factor)
            if many > 0:
                found.append((factor, step, many))
    return tuple(found)


def span(rows, others, prime):
    """Return the reduced basis of all sums of rows of both tables."""
    return reduced(tuple(rows) + tuple(others), prime)


def meet(rows, others, prime):
    """Return the reduced basis of what is a sum of rows of each of two tables."""
    many = len(rows)
    width = len(rows[0]) if rows else 0
    sums = kernel(tuple(rows) + tuple(others), prime)
    return reduced(tuple(led_row(line[:many], rows, prime, width) for line in sums), prime)


def free_places(rows, prime, width):
    """Return the columns that are no leading place of the reduced basis of rows, ascending."""
    leading = leading_places(reduced(rows, prime))
    return tuple(place for place in range(width) if place not in leading)


def rest_row(row, base, prime):
    """Return the row less the sum of rows of a reduced basis that leaves 0 at each leading place."""
    rest = tuple(row)
    for line, place in zip(base, leading_places(base)):
        entry = rest[place]
        if entry > 0:
            rest = tuple((old - entry * new) % prime for old, new in zip(rest, line))
    return rest
