"""How many walks, strings and bands there are, and how they grow with their length."""

from stringrooms.errors import TooGreat
from stringrooms.helping import primitive_number
from stringrooms.plans import follow_table

MOST = 1000000000000000000

# Numbers above this one are all too great, however they are halved or added to.
CAP = 4000000000000000000


def walk_number(plan, length):
    """Return how many walks have just so many letters."""
    return _told(_walks(plan, length))


def string_number(plan, length):
    """Return how many strings have just so many letters."""
    if length == 0:
        return plan[0]
    return _told(_walks(plan, length) // 2)


def string_total(plan, length):
    """Return how many strings have at most so many letters."""
    table = _letter_rows(plan)
    many = len(table)
    # One entry more gathers the numbers of all walks that were met so far.
    table = [row + [1] for row in table] + [[0] * many + [1]]
    row = _led_row([1] * many + [0], table, length)
    return _told(plan[0] + row[-1] // 2)


def between(plan, letter, other, length):
    """Return how many walks with so many letters begin with letter and end with other."""
    table = _letter_rows(plan)
    row = [0] * len(table)
    row[letter] = 1
    return _told(_led_row(row, table, length - 1)[other])


def _told(number):
    if number > MOST:
        raise TooGreat(MOST)
    return number


def _walks(plan, length):
    """Return how many walks have so many letters, or a number above 2 * MOST if there are more."""
    if length == 0:
        return plan[0]
    table = _letter_rows(plan)
    return sum(_led_row([1] * len(table), table, length - 1))


def _letter_rows(plan):
    """Return the table that leads each letter to those that may follow, indexed as in follow_table."""
    table = []
    for behind in follow_table(plan):
        row = [0] * (2 * len(plan[1]))
        for letter in behind:
            row[letter] = 1
        table.append(row)
    return table


def _led_row(row, table, steps):
    """Return the row led by the table so many times; no entry is told beyond CAP.

    Capped sums and products of whole numbers are the capped true ones, so
    every entry below CAP is exact.
    """
    while steps > 0:
        if steps % 2 == 1:
            row = _capped_product(row, table)
        steps = steps // 2
        if steps > 0:
            table = [_capped_product(entries, table) for entries in table]
    return row


def _capped_product(row, table):
    told = [0] * len(table)
    for entry, line in zip(row, table):
        if entry > 0:
            told = [old + entry * new for old, new in zip(told, line)]
    return [min(entry, CAP) for entry in told]


def walk_numbers(plan, length):
    """Return a list: how many walks have 0, 1, .. letters, up to length letters, however many they are."""
    follow = follow_table(plan)
    numbers = [plan[0]]
    row = [1] * len(follow)
    for _ in range(length):
        numbers.append(sum(row))
        row = _followed(follow, row)
    return numbers


def _followed(follow, row):
    """Return the row of numbers of letters led on to the letters that follow them."""
    told = [0] * len(row)
    for at, entry in enumerate(row):
        if entry > 0:
            for letter in follow[at]:
                told[letter] += entry
    return told


def band_number(plan, length):
    """Return how many bands have so many letters."""
    follow = follow_table(plan)
    totals = [0] * (length + 1)
    for start in range(len(follow)):
        row = [0] * len(follow)
        row[start] = 1
        for steps in range(1, length + 1):
            row = _followed(follow, row)
            totals[steps] += row[start]
    return primitive_number(length, totals) // (2 * length)


def letters_behind(plan):
    """Return a list, as follow_table, of dicts of the letters that come somewhere behind each letter."""
    follow = follow_table(plan)
    table = []
    for behind in follow:
        met = {letter: True for letter in behind}
        waiting = list(behind)
        while waiting:
            here = waiting.pop()
            for letter in follow[here]:
                if letter not in met:
                    met[letter] = True
                    waiting.append(letter)
        table.append(met)
    return table


def round_rows(plan):
    """Return a list of all rounds, each begun with its least letter, or None if they are endlessly many.

    They are endlessly many exactly if two letters that follow one letter both
    lead back to it: rounds that share a letter can be put together anyhow.
    """
    follow = follow_table(plan)
    behind = letters_behind(plan)
    many = len(plan[1])
    rows = []
    for letter in range(-many, many):
        if letter not in behind[letter]:
            continue
        row = []
        here = letter
        while not row or here != letter:
            row.append(here)
            returning = [other for other in follow[here] if letter == other or letter in behind[other]]
            if len(returning) > 1:
                return None
            here = returning[0]
        if letter == min(row):
            rows.append(tuple(row))
    return rows


def growth(plan):
    """Return -1 without bands, None for endlessly many, otherwise with which power strings grow."""
    rows = round_rows(plan)
    if rows is None:
        return None
    behind = letters_behind(plan)
    longest = {row: 0 for row in rows}
    # A row of rounds has each one once, so no more sweeps than rounds are needed.
    for _ in rows:
        for row in rows:
            led = [other for other in rows if other != row and other[0] in behind[row[0]]]
            longest[row] = max([longest[other] + 1 for other in led], default=0)
    return max(list(longest.values()), default=-1)
