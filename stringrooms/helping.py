"""What several files need: kinds of values, and whole numbers."""


def is_integer(value):
    """Tell whether a value is an integer; True and False are none."""
    return isinstance(value, int) and not isinstance(value, bool)


def is_below(value, low, high):
    """Tell whether a value is an integer from low on and below high."""
    return is_integer(value) and low <= value < high


def is_row(value, many, low, high):
    """Tell whether a value is a tuple of so many integers from low on and below high."""
    if not isinstance(value, tuple) or len(value) != many:
        return False
    return all(is_below(entry, low, high) for entry in value)


def is_table(value, many, width, high):
    """Tell whether a value is a tuple of so many rows of so many integers from 0 below high."""
    if not isinstance(value, tuple) or len(value) != many:
        return False
    return all(is_row(row, width, 0, high) for row in value)


def is_each_once(value, many):
    """Tell whether a value is a tuple with each integer from 0 below many once."""
    return is_row(value, many, 0, many) and sorted(value) == list(range(many))


def divisors_of(number):
    """Return the whole numbers that divide a number above 0, ascending."""
    return [part for part in range(1, number + 1) if number % part == 0]


def moebius(number):
    """Return 0 if a square above 1 divides the number, otherwise -1 or 1 by how many primes do."""
    sign = 1
    part = 2
    while part * part <= number:
        if number % part == 0:
            number = number // part
            sign = -sign
            if number % part == 0:
                return 0
        part += 1
    if number > 1:
        sign = -sign
    return sign


def primitive_number(length, totals):
    """Return the sum of moebius(length // d) times totals[d] over the divisors d of length.

    totals counts rows by their length; what is left are those that are no
    shorter row written several times.
    """
    return sum(moebius(length // part) * totals[part] for part in divisors_of(length))
