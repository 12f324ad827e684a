"""Strings, bands and rooms by their units."""

from math import gcd

from stringrooms.counting import letters_behind
from stringrooms.errors import TooGreat
from stringrooms.helping import divisors_of, moebius, whole_power
from stringrooms.plans import ends_of, follow_table, from_point
from stringrooms.rounds import band_of
from stringrooms.walks import turned

MOST_ROOMS = 1000000000000000000

# Below, taken are the units that a row of letters, or what is chosen so far,
# has at each point.


def strings_of(plan, units):
    """Return all strings with just these units, ascending."""
    found = [walk for walk, taken in walks_within(plan, units) if taken == units and walk <= turned(plan, walk)]
    return tuple(sorted(found))


def bands_of(plan, units):
    """Return the pairs (BAND, N) of all bands that, N times taken, have just these units, ascending."""
    found = []
    for band, taken in bands_within(plan, units):
        many = max(units) // max(taken)
        if all([many * size == unit for size, unit in zip(taken, units)]):
            found.append((band, many))
    return tuple(sorted(found))


def room_number(plan, prime, units):
    """Return how many rooms, no two of them alike, have just these units; TooGreat for more than 10 ** 18."""
    number = count_rooms(plan, prime, units)
    if number > MOST_ROOMS:
        raise TooGreat(MOST_ROOMS)
    return number


def _one_more(taken, point):
    return taken[:point] + (taken[point] + 1,) + taken[point + 1:]


def walks_within(plan, units):
    """Return all walks with no more than these units, each with what it takes."""
    follow = follow_table(plan)
    zeros = (0,) * plan[0]
    found = [((point, ()), _one_more(zeros, point)) for point in range(plan[0]) if units[point] > 0]
    waiting = list(found)
    while waiting:
        (point, letters), taken = waiting.pop()
        for letter in follow[letters[-1]] if letters else from_point(plan, point):
            end = ends_of(plan, letter)[1]
            if taken[end] < units[end]:
                longer = ((point, letters + (letter,)), _one_more(taken, end))
                found.append(longer)
                waiting.append(longer)
    return found


def bands_within(plan, units):
    """Return all bands with no more than these units, each with what it takes."""
    follow = follow_table(plan)
    zeros = (0,) * plan[0]
    found = []
    for first in _round_letters(plan):
        start = ends_of(plan, first)[0]
        waiting = [((first,), 1, _one_more(zeros, start))] if units[start] > 0 else []
        while waiting:
            row, period, taken = waiting.pop()
            if period == len(row) and first in follow[row[-1]] and row == band_of(plan, row):
                found.append((row, taken))
            # A row that goes on below its own beginning is less when begun there.
            least = row[len(row) - period]
            for letter in follow[row[-1]]:
                start = ends_of(plan, letter)[0]
                if letter >= least and taken[start] < units[start]:
                    longer = period if letter == least else len(row) + 1
                    waiting.append((row + (letter,), longer, _one_more(taken, start)))
    return found


def _round_letters(plan):
    """Return the letters that stand in rounds, ascending."""
    behind = letters_behind(plan)
    many = len(plan[1])
    return [letter for letter in range(-many, many) if letter in behind[letter]]


def _string_counts(plan, units):
    """Return a dict: how many strings have just so many units, for all that are no more than these."""
    follow = follow_table(plan)
    many = len(plan[1])
    zeros = (0,) * plan[0]
    # Each string is two walks, but that of one place.
    told = {_one_more(zeros, point): 2 for point in range(plan[0]) if units[point] > 0}
    row = {}
    for letter in range(-many, many):
        start, end = ends_of(plan, letter)
        if units[start] > 0 and _one_more(zeros, start)[end] < units[end]:
            row[letter, _one_more(_one_more(zeros, start), end)] = 1
    while row:
        for (_, taken), number in row.items():
            told[taken] = told.get(taken, 0) + number
        row = _led_on(plan, follow, row, units, 1)
    return {taken: number // 2 for taken, number in told.items()}


def _led_on(plan, follow, row, units, side):
    """Return the numbers of rows of letters with one letter more, told by last letters and units taken.

    With side 1 a letter takes a unit where it ends, with side 0 where it begins.
    """
    told = {}
    for (letter, taken), number in row.items():
        for other in follow[letter]:
            point = ends_of(plan, other)[side]
            if taken[point] < units[point]:
                key = (other, _one_more(taken, point))
                told[key] = told.get(key, 0) + number
    return told


def _band_counts(plan, units):
    """Return a dict: how many bands have just so many units, for all that are no more than these."""
    follow = follow_table(plan)
    zeros = (0,) * plan[0]
    totals = {}
    for first in _round_letters(plan):
        start = ends_of(plan, first)[0]
        row = {(first, _one_more(zeros, start)): 1} if units[start] > 0 else {}
        while row:
            for (letter, taken), number in row.items():
                if first in follow[letter]:
                    totals[taken] = totals.get(taken, 0) + number
            row = _led_on(plan, follow, row, units, 0)
    told = {}
    for taken in totals:
        single = sum(moebius(part) * totals.get(tuple(size // part for size in taken), 0)
                     for part in divisors_of(_shared(taken)))
        if single > 0:
            told[taken] = single // (2 * sum(taken))
    return told


def _shared(taken):
    """Return the greatest number that divides all of some sizes."""
    told = 0
    for size in taken:
        told = gcd(told, size)
    return told


def count_rooms(plan, prime, units):
    """Return how many rooms, no two of them alike, have just these units, however many they are.

    The numbers of rooms by sizes make a series F: the product of a series for
    each string and each band. How often a point comes in some sizes, times
    their number, is the sum over all parts of these sizes of the part's share
    times the number for what is left; the share is the coefficient of log F,
    times how often the point comes in the part.
    """
    shares = [[] for _ in units]
    for taken, number in _log_shares(plan, prime, units).items():
        first = _first_place(taken)
        shares[first].append((taken, taken[first] * number // _shared(taken)))
    numbers = {}
    for taken in _all_within(units):
        first = _first_place(taken)
        if first is None:
            numbers[taken] = 1
            continue
        total = 0
        for part, share in shares[first]:
            left = tuple(size - less for size, less in zip(taken, part))
            if min(left) >= 0:
                total += share * numbers[left]
        numbers[taken] = total // taken[first]
    return numbers[units]


def _first_place(taken):
    """Return the first place that is not 0, or None."""
    for place, size in enumerate(taken):
        if size > 0:
            return place
    return None


def _all_within(units):
    """Return all sizes that are no more than these, ascending."""
    told = [()]
    for many in units:
        told = [row + (size,) for row in told for size in range(many + 1)]
    return told


def _log_shares(plan, prime, units):
    """Return a dict: for sizes the coefficient of log F there, times the greatest number that divides them all.

    A string, which may come any number of times, has the series 1 / (1 - y),
    a band the product over K of (1 - y^K) / (1 - P y^K), y told by its sizes.
    """
    told = {}
    for counts, is_band in ((_string_counts(plan, units), False), (_band_counts(plan, units), True)):
        for taken, number in counts.items():
            many = 1
            while all([many * size <= unit for size, unit in zip(taken, units)]):
                key = tuple(many * size for size in taken)
                share = _band_share(prime, many) if is_band else 1
                told[key] = told.get(key, 0) + number * share * _shared(key) // many
                many += 1
    return told


def _band_share(prime, many):
    """Return N times the coefficient of y^N in the logarithm of a band's series."""
    return sum(part * (whole_power(prime, many // part) - 1) for part in divisors_of(many))
