"""What several files need: kinds of values, and whole numbers."""


def is_integer(value):
    """Tell whether a value is an integer; True and False are none."""
    return isinstance(value, int) and not isinstance(value, bool)


def is_below(value, low, high):
    """Tell whether a value is an integer from low on and below high."""
    return is_integer(value) and low <= value < high


def is_row(value, many, low, high):
    """Tell whether a value is a tuple of so many integers from low on and below high."""
    if not isinstance(value, tuple) or len(value) != many:
        return False
    return all(is_below(entry, low, high) for entry in value)


def is_table(value, many, width, high):
    """Tell whether a value is a tuple of so many rows of so many integers from 0 below high."""
    if not isinstance(value, tuple) or len(value) != many:
        return False
    return all(is_row(row, width, 0, high) for row in value)


def is_each_once(value, many):
    """Tell whether a value is a tuple with each integer from 0 below many once."""
    return is_row(value, many, 0, many) and sorted(value) == list(range(many))


def divisors_of(number):
    """Return the whole numbers that divide a number above 0, ascending."""
    return [part for part in range(1, number + 1) if number % part == 0]


def moebius(number):
    """Return 0 if a square above 1 divides the number, otherwise -1 or 1 by how many primes do."""
    sign = 1
    part = 2
    while part * part <= number:
        if number % part == 0:
            number = number // part
            sign = -sign
            if number % part == 0:
                return 0
        part += 1
    if number > 1:
        sign = -sign
    return sign


def primitive_number(length, totals):
    """Return the sum of moebius(length // d) times totals[d] over the divisors d of length.

    totals counts rows by their length; what is left are those that are no
    shorter row written several times.
    """
    return sum(moebius(length // part) * totals[part] for part in divisors_of(length))


def solved_whole(rows, goals):
    """Return the determinant D of a square table of integers, and a table for which rows times it is D times goals.

    If D is 0, there is none: the table is (). All divisions on the way leave
    nothing over, so all numbers are whole.
    """
    size = len(rows)
    left = [list(row) + list(goal) for row, goal in zip(rows, goals)]
    last, sign = 1, 1
    for place in range(size):
        fitting = [at for at in range(place, size) if left[at][place] != 0]
        if not fitting:
            return 0, ()
        if fitting[0] > place:
            left[place], left[fitting[0]] = left[fitting[0]], left[place]
            sign = -sign
        base = left[place]
        pivot = base[place]
        for at in range(size):
            if at != place:
                entry = left[at][place]
                left[at] = [(pivot * old - entry * new) // last for old, new in zip(left[at], base)]
        last = pivot
    return sign * last, tuple(tuple(sign * entry for entry in row[size:]) for row in left)


def ring_of(values, first, period):
    """Return the least START and RING with which a row without end repeats itself from START on.

    values are its beginning: from first on, it is known, it repeats itself
    with the period, and values has first, then the period twice over.
    """
    ring = period
    for part in divisors_of(period):
        if values[first:first + period] == values[first + part:first + part + period]:
            ring = part
            break
    start = first
    while start > 0 and values[start - 1] == values[start - 1 + ring]:
        start -= 1
    return (start, ring)


def whole_power(number, steps):
    """Return the power of a whole number with an exponent from 0."""
    told = 1
    for _ in range(steps):
        told = told * number
    return told
