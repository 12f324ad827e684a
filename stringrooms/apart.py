"""Rooms taken apart: which strings and marked bands they are the sum of."""

from stringrooms.errors import TooGreat
from stringrooms.fields import kernel, poly_power, rank, reduced
from stringrooms.helping import divisors_of
from stringrooms.plans import ends_of, follow_table, from_point
from stringrooms.rounds import band_of
from stringrooms.tables import divisors, led_row, one, rest_row, solved, times
from stringrooms.walks import end_of, sizes_of, turned

MOST_APART = 16


def check_apart(rooms):
    """Raise TooGreat if one of the rooms has more than 16 units in all."""
    if any(sum(room[0]) > MOST_APART for room in rooms):
        raise TooGreat(MOST_APART)


def pairs_along(plan, prime, room, walk):
    """Return the basis of the pairs along a walk, first row and last row written in one row."""
    width = room[0][walk[0]]
    pairs = tuple(unit + unit for unit in one(width))
    for letter in walk[1]:
        pairs = _pairs_behind(plan, prime, room, pairs, width, letter)
    return reduced(pairs, prime)


def _pairs_behind(plan, prime, room, pairs, width, letter):
    """Return pairs with their second rows, from width on, led on by a letter."""
    units, tables = room
    firsts = tuple(pair[:width] for pair in pairs)
    seconds = tuple(pair[width:] for pair in pairs)
    if letter >= 0:
        led = times(seconds, tables[letter], prime, units[plan[1][letter][1]])
        return tuple(first + second for first, second in zip(firsts, led))
    table = tables[-1 - letter]
    told = []
    # A sum of the table's rows less one of the second rows is zero: they agree.
    for sums in kernel(table + seconds, prime):
        less = tuple(-entry % prime for entry in sums[len(table):])
        told.append(led_row(less, firsts, prime, width) + sums[:len(table)])
    return reduced(told, prime)


def number_along(plan, prime, room, walk):
    """Return how often a walk stands in the strings and bands of a room."""
    every, nothing = one(room[0][walk[0]]), ()
    for letter in walk[1]:
        every, nothing = _both_behind(prime, room, every, nothing, letter)
    return rank(every, prime) - rank(nothing, prime)


def _both_behind(prime, room, every, nothing, letter):
    return _rows_behind(prime, room, every, letter), _rows_behind(prime, room, nothing, letter)


def _rows_behind(prime, room, rows, letter):
    """Return a basis of all rows at the end of a letter that make a pair with a sum of rows at its beginning.

    As pairs along a walk are sums of pairs, all second rows less those that
    go with a first row of zeros are as many as the number along the walk.
    """
    table = room[1][letter] if letter >= 0 else room[1][-1 - letter]
    if letter >= 0:
        width = len(table[0]) if table else 0
        return reduced(times(rows, table, prime, width), prime)
    return reduced(tuple(sums[:len(table)] for sums in kernel(table + rows, prime)), prime)


def _numbers_along(plan, prime, room, most):
    """Return a dict: for each walk of at most so many letters with a number above 0 along it that number."""
    follow = follow_table(plan)
    told = {}
    waiting = []
    for point in range(plan[0]):
        if room[0][point] > 0:
            waiting.append(((point, ()), one(room[0][point]), ()))
    while waiting:
        walk, every, nothing = waiting.pop()
        told[walk] = len(every) - len(nothing)
        if len(walk[1]) == most:
            continue
        for letter in follow[walk[1][-1]] if walk[1] else from_point(plan, walk[0]):
            longer, less = _both_behind(prime, room, every, nothing, letter)
            # What is longer stands nowhere where the walk does not.
            if len(longer) > len(less):
                waiting.append(((walk[0], walk[1] + (letter,)), longer, less))
    return told


def _string_numbers(plan, numbers):
    """Return a dict: how often each walk is a part, from the numbers along it and along those a letter longer."""
    told = {walk: 0 for walk in numbers}
    for walk, many in numbers.items():
        point, letters = walk
        told[walk] += many
        if len(letters) == 1:
            told[(point, ())] -= many
        if len(letters) >= 2:
            middle = ends_of(plan, letters[0])[1]
            told[(point, letters[:-1])] -= many
            told[(middle, letters[1:])] -= many
            # Two letters about a place stand there once, however they are read.
            if len(letters) > 2 or walk <= turned(plan, walk):
                told[(middle, letters[1:-1])] += many
    return told


def _strings_from(plan, room, numbers):
    most = sum(room[0]) - 1
    told = _string_numbers(plan, numbers)
    found = [(walk, many) for walk, many in told.items()
             if many > 0 and len(walk[1]) <= most and walk <= turned(plan, walk)]
    return tuple(sorted(found))


def strings_in(plan, prime, room):
    """Return the pairs (STRING, HOW OFTEN) of the strings that are parts of a room, ascending."""
    check_apart((room,))
    return _strings_from(plan, room, _numbers_along(plan, prime, room, sum(room[0]) + 1))


def rounds_in(plan, prime, room):
    """Return the triples (BAND, POLY, HOW OFTEN) of the marked bands that are parts of a room, ascending."""
    return parts_of_room(plan, prime, room)[1]


def parts_of_room(plan, prime, room):
    """Return the pair of strings_in and rounds_in."""
    check_apart((room,))
    numbers = _numbers_along(plan, prime, room, sum(room[0]) + 1)
    strings = _strings_from(plan, room, numbers)
    left = list(room[0])
    for walk, many in strings:
        left = [units - many * size for units, size in zip(left, sizes_of(plan, walk))]
    return (strings, _rounds_from(plan, prime, room, numbers, left))


def _rounds_from(plan, prime, room, numbers, left):
    """Return the marked bands of a room; left tells how many units are in them all."""
    follow = follow_table(plan)
    found = []
    for walk in numbers:
        letters = walk[1]
        if 0 < len(letters) <= sum(left) and end_of(plan, walk) == walk[0] and letters[0] in follow[letters[-1]]:
            if _is_once(letters) and letters == band_of(plan, letters):
                for factor, step, many in round_divisors(plan, prime, room, letters):
                    found.append((letters, poly_power(prime, factor, step), many))
    return tuple(sorted(found))


def _is_once(letters):
    """Tell whether a row of letters is no shorter row written several times."""
    many = len(letters)
    return not any(letters == letters[:part] * (many // part) for part in divisors_of(many)[:-1])


def round_divisors(plan, prime, room, letters):
    """Return the triples (IRREDUCIBLE, POWER, HOW OFTEN) of the parts that are marked bands of a round."""
    check_apart((room,))
    point = ends_of(plan, letters[0])[0]
    width = room[0][point]
    every, nothing = one(width), ()
    # Behind as many letters as there are units, going round once more changes neither.
    for _ in range(1 + -(-sum(room[0]) // len(letters))):
        for letter in letters:
            every, nothing = _both_behind(prime, room, every, nothing, letter)
    rows = reduced(tuple(rest_row(row, nothing, prime) for row in every), prime)
    pairs = pairs_along(plan, prime, room, (point, letters))
    firsts = tuple(pair[:width] for pair in pairs) + nothing
    table = []
    for row in rows:
        sums = solved(firsts, prime, row)[:len(pairs)]
        led = led_row(sums, tuple(pair[width:] for pair in pairs), prime, width)
        table.append(solved(rows, prime, rest_row(led, nothing, prime)))
    return divisors(tuple(table), prime)


def alike(plan, prime, room, other):
    """Tell whether two rooms are alike."""
    check_apart((room, other))
    if room[0] != other[0]:
        return False
    return parts_of_room(plan, prime, room) == parts_of_room(plan, prime, other)
