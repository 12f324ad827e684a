"""Rounds: rows of letters that come back, their bands, and lists of bands and strings."""

from stringrooms.counting import band_number, letters_behind, round_rows, walk_numbers
from stringrooms.errors import Endless, NotRound, TooGreat
from stringrooms.helping import divisors_of, is_row
from stringrooms.plans import follow_table, may_follow
from stringrooms.walks import MOST_LETTERS, strings_upto

MOST_BANDS = 500


def check_round(plan, value):
    """Return the value if it is a round of at most 60 letters; raise NotRound with its place otherwise."""
    many = len(plan[1])
    if not isinstance(value, tuple) or not 1 <= len(value) <= MOST_LETTERS:
        raise NotRound(-1)
    if not is_row(value, len(value), -many, many):
        raise NotRound(-1)
    for place, letter in enumerate(value):
        if not may_follow(plan, value[place - 1], letter):
            raise NotRound(place)
    length = len(value)
    for part in divisors_of(length):
        if part < length and value == value[:part] * (length // part):
            raise NotRound(length)
    return value


def turned_round(letters):
    """Return a round turned about."""
    return tuple(-1 - letter for letter in letters[::-1])


def begun_at(letters, place):
    """Return a round begun at a place."""
    return letters[place:] + letters[:place]


def band_place(plan, letters):
    """Return (K, 1) if the band is the round begun at K, (K, -1) if it is the turned round begun at K."""
    about = turned_round(letters)
    places = list(range(len(letters)))
    _, place, way = min([(begun_at(letters, place), place, 1) for place in places]
                        + [(begun_at(about, place), place, -1) for place in places])
    return (place, way)


def band_of(plan, letters):
    """Return the band of a round."""
    place, way = band_place(plan, letters)
    return begun_at(letters if way == 1 else turned_round(letters), place)


def has_bands(plan):
    """Tell whether a plan has bands."""
    many = len(plan[1])
    behind = letters_behind(plan)
    return any(letter in behind[letter] for letter in range(-many, many))


def bands(plan, length):
    """Return all bands with so many letters, ascending; TooGreat for more than 500."""
    if band_number(plan, length) > MOST_BANDS:
        raise TooGreat(MOST_BANDS)
    follow = follow_table(plan)
    many = len(plan[1])
    found = []
    for first in range(-many, many):
        rows = _least_rows(follow, first, length)
        found.extend([row for row in rows if row == band_of(plan, row)])
    return tuple(found)


def _least_rows(follow, first, length):
    """Return, ascending, the rounds of so many letters that begin with first and are not less when begun elsewhere."""
    coming = _coming_to(follow, first, length)
    waiting = [((first,), 1)]
    found = []
    while waiting:
        row, period = waiting.pop()
        if len(row) == length:
            if period == length and first in follow[row[-1]]:
                found.append(row)
            continue
        # A row that goes on below its own beginning is less when begun there.
        least = row[len(row) - period]
        for letter in follow[row[-1]][::-1]:
            if letter >= least and coming[length - len(row)][letter]:
                waiting.append((row + (letter,), period if letter == least else len(row) + 1))
    return found


def _coming_to(follow, first, length):
    """Return a list: for 0, 1, .. which letters come to first in just so many steps, over letters not below it."""
    many = len(follow) // 2
    table = [[letter == first for letter in list(range(many)) + list(range(-many, 0))]]
    for _ in range(length):
        last = table[-1]
        line = [False] * len(follow)
        for letter in range(first, many):
            line[letter] = any(last[other] for other in follow[letter])
        table.append(line)
    return table


def a_band(plan):
    """Return the least of the shortest bands, or None."""
    follow = follow_table(plan)
    many = len(plan[1])
    lengths = [_steps_back(follow, letter) for letter in range(-many, many)]
    length = min([steps for steps in lengths if steps is not None], default=None)
    if length is None:
        return None
    first = lengths.index(length) - many
    # No letter of a round as short as can be is below the first one that stands in one.
    coming = _coming_to(follow, first, length)
    row = (first,)
    while len(row) < length:
        left = length - len(row)
        row = row + (min([letter for letter in follow[row[-1]] if coming[left][letter]]),)
    return row


def _steps_back(follow, letter):
    """Return with how many steps at least a letter comes back to itself, or None."""
    steps = {other: 1 for other in follow[letter]}
    waiting = list(follow[letter])
    at = 0
    while at < len(waiting):
        here = waiting[at]
        if here == letter:
            return steps[here]
        for other in follow[here]:
            if other not in steps:
                steps[other] = steps[here] + 1
                waiting.append(other)
        at += 1
    return None


def band_list(plan):
    """Return all bands, shorter ones first; Endless for endlessly many."""
    rows = round_rows(plan)
    if rows is None:
        raise Endless()
    found = {band_of(plan, row): True for row in rows}
    return tuple(band for _, band in sorted([(len(band), band) for band in found]))


def all_strings(plan):
    """Return all strings, ascending; Endless with bands, TooGreat for more than 2000."""
    return strings_upto(plan, longest(plan))


def few_strings(plan, most):
    """Return all strings, ascending; Endless with bands, TooGreat for more than most of them."""
    if has_bands(plan):
        raise Endless()
    # Without bands no letter comes twice.
    numbers = walk_numbers(plan, 2 * len(plan[1]))
    if numbers[0] + sum(numbers[1:]) // 2 > most:
        raise TooGreat(most)
    return strings_upto(plan, 2 * len(plan[1]))


def longest(plan):
    """Return the greatest number of letters of a string; Endless with bands."""
    if has_bands(plan):
        raise Endless()
    # Without bands no letter comes twice, so some number is 0.
    return walk_numbers(plan, 2 * len(plan[1]) + 1).index(0) - 1
