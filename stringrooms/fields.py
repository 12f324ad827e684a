"""Numbers modulo a prime, polynomials over them, and rows of them."""

from stringrooms.errors import NotName, NotPoly, NoWay, TooGreat
from stringrooms.helping import divisors_of, is_integer, is_row, moebius

PRIMES = (2, 3, 5, 7)
MOST_DEGREE = 12
MOST_POWER = 60
MOST_LISTED = 700


def check_prime(value):
    """Return the value if it is 2, 3, 5 or 7; raise NotName otherwise."""
    if not is_integer(value) or value not in PRIMES:
        raise NotName("prime")
    return value


def check_poly(prime, value):
    """Return the value if it is a polynomial of degree 1 to 12 that x does not divide; raise NotPoly otherwise."""
    if not isinstance(value, tuple) or not 1 <= len(value) <= MOST_DEGREE:
        raise NotPoly()
    if not is_row(value, len(value), 0, prime) or value[0] == 0:
        raise NotPoly()
    return value


def undone_number(prime, number):
    """Return the number whose product with a number is 1; raise NoWay if there is none."""
    for other in range(1, prime):
        if number * other % prime == 1:
            return other
    raise NoWay()


def poly_times(prime, poly, other):
    """Return the product of two polynomials."""
    told = [0] * (len(poly) + len(other) + 1)
    for place, entry in enumerate(_all_numbers(poly)):
        for step, number in enumerate(_all_numbers(other)):
            told[place + step] += entry * number
    return tuple(entry % prime for entry in told[:-1])


def poly_power(prime, poly, steps):
    """Return a power of a polynomial; TooGreat for a degree above 60."""
    if len(poly) * steps > MOST_POWER:
        raise TooGreat(MOST_POWER)
    told = ()
    if poly:
        for _ in range(steps):
            told = poly_times(prime, told, poly)
    return told


def is_irreducible(prime, poly):
    """Tell whether a polynomial of degree from 1 is irreducible."""
    return factors(prime, poly) == ((poly, 1),)


def factors(prime, poly):
    """Return the pairs (IRREDUCIBLE, HOW OFTEN) of a polynomial, ascending by degree, then as Python compares."""
    found = []
    left = _all_numbers(poly)
    times = 1
    while len(left) > 1:
        slope = _trimmed([place * entry % prime for place, entry in enumerate(left)][1:])
        if not slope:
            # A polynomial in x^P is the P-th power of the one with the same numbers.
            left = left[::prime]
            times = times * prime
            continue
        single = _divided(prime, left, _shared(prime, left, slope))[0]
        for factor in _single_factors(prime, single):
            many = 0
            quotient, rest = _divided(prime, left, factor)
            while not rest:
                many += 1
                left = quotient
                quotient, rest = _divided(prime, left, factor)
            found.append((len(factor) - 1, tuple(factor[:-1]), many * times))
    return tuple((factor, many) for _, factor, many in sorted(found))


def power_of(prime, poly):
    """Return (IRREDUCIBLE, HOW OFTEN) of a power of an irreducible polynomial other than x; NotPoly otherwise."""
    found = factors(prime, poly)
    if len(found) != 1 or found[0][0] == (0,):
        raise NotPoly()
    return found[0]


def undone(prime, poly):
    """Return x^d F(1 / x) divided by f0; raise NotPoly if f0 is 0."""
    if not poly:
        return ()
    if poly[0] == 0:
        raise NotPoly()
    return tuple(_monic(prime, _all_numbers(poly)[::-1])[:-1])


def irreducible_number(prime, steps):
    """Return how many irreducible polynomials of a degree there are, x counted."""
    total = 0
    for part in divisors_of(steps):
        power = 1
        for _ in range(part):
            power = power * prime
        total += moebius(steps // part) * power
    return total // steps


def irreducibles(prime, steps):
    """Return all irreducible polynomials of a degree but x, ascending; TooGreat for more than 700 to choose from."""
    many = 1
    for _ in range(steps):
        many = many * prime
        if many > MOST_LISTED:
            raise TooGreat(MOST_LISTED)
    return tuple(_unstruck(prime, steps))


def _unstruck(prime, steps):
    """Return, ascending, the polynomials of a degree, but x, of which none of half the degree or less is a factor."""
    polys = [(number,) for number in range(1, prime)]
    if steps == 1:
        return polys
    numbers = list(range(prime))
    for _ in range(steps - 1):
        polys = [poly + (number,) for poly in polys for number in numbers]
    struck = [False] * len(polys)
    sums = [[0]]
    for degree in range(1, steps // 2 + 1):
        sums = _longer_sums(prime, sums, numbers)
        for factor in _unstruck(prime, degree):
            for place in _multiples(prime, factor, steps, sums):
                struck[place] = True
    return [poly for poly, out in zip(polys, struck) if not out]


def _longer_sums(prime, sums, numbers):
    """Return the table of sums of rows of numbers, told by their places among all such rows, for one number more."""
    return [[entry * prime + (one + other) % prime for entry in line for other in numbers]
            for line in sums for one in numbers]


def _multiples(prime, factor, steps, sums):
    """Return the places of the multiples of a factor among the polynomials of a degree that x does not divide.

    All numbers but the first ones, as many as the factor's degree, may be
    any: what they leave, divided by the factor, tells the first ones.
    """
    row = factor
    rests = []
    while len(rests) <= steps - len(factor):
        if rests:
            last = row[-1]
            row = [(old - last * number) % prime for old, number in zip([0, *row], factor)]
        place = 0
        for number in row:
            place = place * prime + number
        rests.append(place)
    firsts = [rests[-1]]
    for rest in rests[:-1]:
        lines = [sums[0]]
        for _ in range(prime - 1):
            lines.append(sums[lines[-1][rest]])
        firsts = [line[first] for first in firsts for line in lines]
    # Those that begin with 0, which x divides, come first of all.
    less = len(sums) // prime
    many = len(firsts)
    return [(first - less) * many + place for place, first in enumerate(firsts) if first >= less]


def _all_numbers(poly):
    """Return the list of all numbers of a polynomial, the one of the highest power too."""
    return list(poly) + [1]


def _trimmed(numbers):
    """Return the list without the zeros at its end; that of the polynomial 0 is empty."""
    many = len(numbers)
    while many > 0 and numbers[many - 1] == 0:
        many -= 1
    return numbers[:many]


def _monic(prime, numbers):
    """Return the list divided by its last number."""
    factor = undone_number(prime, numbers[-1])
    return [entry * factor % prime for entry in numbers]


def _divided(prime, numbers, others):
    """Return quotient and rest of two lists of numbers, the second one not empty."""
    factor = undone_number(prime, others[-1])
    rest = list(numbers)
    quotient = [0] * max(0, len(numbers) - len(others) + 1)
    for place in reversed(range(len(quotient))):
        entry = rest[place + len(others) - 1] * factor % prime
        quotient[place] = entry
        if entry > 0:
            for step, number in enumerate(others):
                rest[place + step] = (rest[place + step] - entry * number) % prime
    return quotient, _trimmed(rest)


def _shared(prime, numbers, others):
    """Return the monic greatest common divisor of two lists of numbers."""
    while others:
        numbers, others = others, _divided(prime, numbers, others)[1]
    return _monic(prime, numbers)


def _single_factors(prime, numbers):
    """Return the irreducible factors of a monic polynomial that has each one once.

    The polynomials below its degree that are their own P-th power modulo it
    are, modulo each factor, a number: subtracting numbers tells factors apart.
    """
    degree = len(numbers) - 1
    rows = []
    power = [1]
    for place in range(degree):
        row = power + [0] * (degree - len(power))
        row[place] = (row[place] - 1) % prime
        rows.append(tuple(row))
        power = _divided(prime, [0] * prime + power, numbers)[1]
    parts = [numbers]
    fixed = kernel(rows, prime)
    for row in fixed:
        if len(parts) < len(fixed):
            parts = [other for part in parts for other in _parted(prime, part, list(row))]
    return parts


def _parted(prime, part, row):
    """Return the greatest common divisors, other than 1, of a part with a polynomial less each number."""
    found = []
    for number in range(prime):
        less = _trimmed([(row[0] - number) % prime] + row[1:])
        common = _shared(prime, part, less)
        if len(common) > 1:
            found.append(common)
    return found


def put_row(kept, row, prime):
    """Put a row to the kept ones, and tell whether it is no sum of these.

    kept is a dict: for each leading place of their sums a row with 1 there
    and 0 ahead of it.
    """
    rest = row
    for place in range(len(row)):
        entry = rest[place]
        if entry == 0:
            continue
        if place not in kept:
            factor = undone_number(prime, entry)
            kept[place] = [number * factor % prime for number in rest]
            return True
        rest = [(number - entry * other) % prime for number, other in zip(rest, kept[place])]
    return False


def _leading_rows(rows, prime):
    """Return a dict: for each leading place of the sums of rows a row with 1 there and 0 ahead of it."""
    kept = {}
    for row in rows:
        put_row(kept, row, prime)
    return kept


def reduced(rows, prime):
    """Return the reduced basis of all sums of rows."""
    kept = _leading_rows(rows, prime)
    places = sorted(kept)
    for place in places[::-1]:
        row = kept[place]
        for later in places:
            entry = row[later]
            if later > place and entry > 0:
                row = [(number - entry * other) % prime for number, other in zip(row, kept[later])]
        kept[place] = row
    return tuple(tuple(kept[place]) for place in places)


def leading_places(base):
    """Return the leading places of a reduced basis: the first number of a row that is not 0 is 1."""
    return [row.index(1) for row in base]


def rank(rows, prime):
    """Return how many rows the reduced basis of rows has."""
    return len(_leading_rows(rows, prime))


def kernel(rows, prime):
    """Return the reduced basis of all rows that the table leads to zeros."""
    many = len(rows)
    # Taken from the last number on, free numbers come to stand at leading places.
    about = rows[::-1]
    base = reduced(list(zip(*about)), prime)
    leading = leading_places(base)
    found = []
    for free in range(many):
        if many - 1 - free not in leading:
            told = [0] * many
            told[free] = 1
            for place, row in zip(leading, base):
                told[many - 1 - place] = -row[many - 1 - free] % prime
            found.append(tuple(told))
    return tuple(found)
