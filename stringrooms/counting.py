"""How many walks, strings and bands there are, and how they grow with their length."""

from math import gcd, lcm

from stringrooms.errors import TooGreat
from stringrooms.helping import primitive_number
from stringrooms.plans import follow_table

MOST = 1000000000000000000

# Numbers above this one are all too great, however they are halved or added to.
CAP = 4000000000000000000


def walk_number(plan, length):
    """Return how many walks have just so many letters."""
    return _told(_walks(plan, length))


def string_number(plan, length):
    """Return how many strings have just so many letters."""
    if length == 0:
        return plan[0]
    return _told(_walks(plan, length) // 2)


def string_total(plan, length):
    """Return how many strings have at most so many letters."""
    follow = _places_behind(plan)
    many = len(follow)
    # One place more gathers the numbers of all walks that were met so far.
    follow = [behind + [many] for behind in follow] + [[many]]
    gathered = _row_number(follow, [1] * many + [0], [many], length)
    return _told(plan[0] + gathered // 2)


def between(plan, letter, other, length):
    """Return how many walks with so many letters begin with letter and end with other."""
    follow = _places_behind(plan)
    many = len(follow)
    row = [0] * many
    row[letter] = 1
    return _told(_row_number(follow, row, [other % many], length - 1))


def _told(number):
    if number > MOST:
        raise TooGreat(MOST)
    return number


def _walks(plan, length):
    """Return how many walks have so many letters, or a number above 2 * MOST if there are more."""
    if length == 0:
        return plan[0]
    follow = _places_behind(plan)
    many = len(follow)
    return _row_number(follow, [1] * many, list(range(many)), length - 1)


# Below, letters are told by places from 0: that of a letter is its index in
# follow_table, counted from the front. Lots of places are told by the bits of
# a number. A fork is a place with two followers that both lead back to it.


def _places_behind(plan):
    """Return for each place the list of the places of its followers."""
    table = follow_table(plan)
    many = len(table)
    return [[letter % many for letter in behind] for behind in table]


def _row_number(follow, starts, ends, steps):
    """Return how many rows of so many steps lead from starts, a number for each place, to one of ends.

    If they are more than 2 * MOST, it is any number above 2 * MOST.
    """
    many = len(follow)
    if steps <= 2 * many:
        return _sum_at(_stepped(follow, starts, steps), ends)
    reach = _reached(follow)
    # There are more steps than places, so some place has to come back to itself.
    if not any([bits >> place & 1 for place, bits in enumerate(reach)]):
        return 0
    kept = _between_places(reach, starts, ends)
    forks = [place for place in kept if _is_fork(follow, reach, place)]
    if forks:
        # A row over a fork is two rows without a round, one to it and one from
        # it, and rounds of at most many steps that were put in. Let M be a number
        # of steps that both short rounds of the fork divide: of any M of the
        # rounds put in some are together a multiple of M, and may be changed for
        # the one short round or for the other one. With so many steps that can be
        # done more than 62 times, so there are more than 2 ** 62 such rows.
        if steps < 64 * many * many * many:
            return _sum_at(_led_row(starts, _letter_rows(follow), steps), ends)
        if any(_can_meet(follow, reach, fork, starts, ends, steps) for fork in forks):
            return CAP
        kept = [place for place in kept if not any(_is_round(reach, place, fork) for fork in forks)]
    return _number_by_rounds(follow, reach, kept, starts, ends, steps)


def _sum_at(row, ends):
    return sum(row[place] for place in ends)


def _stepped(follow, row, steps):
    for _ in range(steps):
        row = _followed(follow, row)
    return row


def _reached(follow):
    """Return for each place the bits of those that come somewhere behind it."""
    reach = []
    for behind in follow:
        bits = 0
        for place in behind:
            bits |= 1 << place
        reach.append(bits)
    for middle in range(len(follow)):
        here = reach[middle]
        reach = [bits | here if bits >> middle & 1 else bits for bits in reach]
    return reach


def _between_places(reach, starts, ends):
    """Return the places that are met on the way from starts to ends."""
    goal = 0
    for place in ends:
        goal |= 1 << place
    met = 0
    for place, entry in enumerate(starts):
        if entry > 0:
            met |= 1 << place | reach[place]
    return [place for place in range(len(reach))
            if met >> place & 1 and (reach[place] | 1 << place) & goal]


def _is_round(reach, place, other):
    """Tell whether each of two places comes somewhere behind the other one."""
    return reach[place] >> other & 1 == 1 and reach[other] >> place & 1 == 1


def _is_fork(follow, reach, place):
    return len([other for other in follow[place] if reach[other] >> place & 1]) > 1


def _can_meet(follow, reach, fork, starts, ends, steps):
    """Tell whether some row of so many steps, which are many, leads from starts over a fork to ends.

    The lengths of the rounds of a fork are, from some length on, all multiples
    of their greatest common divisor: only what is left of the lengths of the
    other rows matters.
    """
    period = _period(follow, reach, fork)
    ahead = _lefts(follow, [1 if entry > 0 else 0 for entry in starts], period)[fork]
    behind = _lefts(follow, [1 if place == fork else 0 for place in range(len(follow))], period)
    after = [left for left in range(period) if any(behind[place] >> left & 1 for place in ends)]
    return any(ahead >> (steps - left) % period & 1 for left in after)


def _period(follow, reach, fork):
    """Return the greatest common divisor of the lengths of all rounds of a place."""
    distance = {fork: 0}
    waiting = [fork]
    period = 0
    at = 0
    while at < len(waiting):
        here = waiting[at]
        for other in follow[here]:
            if other in distance:
                period = gcd(period, distance[here] + 1 - distance[other])
            elif _is_round(reach, other, fork):
                distance[other] = distance[here] + 1
                waiting.append(other)
        at += 1
    return period


def _lefts(follow, firsts, period):
    """Return for each place the bits of what is left, by a period, of the lengths of rows to it from firsts."""
    told = list(firsts)
    waiting = [place for place, bits in enumerate(firsts) if bits > 0]
    full = (1 << period) - 1
    while waiting:
        here = waiting.pop()
        bits = (told[here] << 1 | told[here] >> (period - 1)) & full
        for other in follow[here]:
            if told[other] | bits != told[other]:
                told[other] = told[other] | bits
                waiting.append(other)
    return told


def _number_by_rounds(follow, reach, kept, starts, ends, steps):
    """Return how many rows of so many steps there are over the places kept, none of which is a fork.

    Each of them stands in one round at most. Behind as many steps as places
    that stand in none, going on as far as all rounds together come back is
    one and a table some power of which is nothing: so the number is a sum of
    binomial numbers.
    """
    at = {place: number for number, place in enumerate(kept)}
    inner = [[at[other] for other in follow[place] if other in at] for place in kept]
    turn, single = 1, 0
    for place in kept:
        length = len([other for other in kept if _is_round(reach, place, other)])
        if length > 0:
            turn = lcm(turn, length)
        else:
            single += 1
    goal = [at[place] for place in ends if place in at]
    first = single + (steps - single) % turn
    row = _stepped(inner, [starts[place] for place in kept], first)
    turns = (steps - first) // turn
    total, choose, done = 0, 1, 0
    while choose > 0 and any(row):
        total += choose * _sum_at(row, goal)
        row = [new - old for new, old in zip(_stepped(inner, row, turn), row)]
        choose = choose * (turns - done) // (done + 1)
        done += 1
    return total


def _letter_rows(follow):
    """Return the table that leads each place to those behind it."""
    table = []
    for behind in follow:
        row = [0] * len(follow)
        for place in behind:
            row[place] = 1
        table.append(row)
    return table


def _led_row(row, table, steps):
    """Return the row led by the table so many times; no entry is told beyond CAP.

    Capped sums and products of whole numbers are the capped true ones, so
    every entry below CAP is exact.
    """
    while steps > 0:
        if steps % 2 == 1:
            row = _capped_product(row, table)
        steps = steps // 2
        if steps > 0:
            table = [_capped_product(entries, table) for entries in table]
    return row


def _capped_product(row, table):
    told = [0] * len(table)
    for entry, line in zip(row, table):
        if entry > 0:
            told = [old + entry * new for old, new in zip(told, line)]
    return [min(entry, CAP) for entry in told]


def walk_numbers(plan, length):
    """Return a list: how many walks have 0, 1, .. letters, up to length letters, however many they are."""
    follow = follow_table(plan)
    numbers = [plan[0]]
    row = [1] * len(follow)
    for _ in range(length):
        numbers.append(sum(row))
        row = _followed(follow, row)
    return numbers


def _followed(follow, row):
    """Return the row of numbers of letters led on to the letters that follow them."""
    told = [0] * len(row)
    for entry, behind in zip(row, follow):
        if entry != 0:
            for letter in behind:
                told[letter] += entry
    return told


def band_number(plan, length):
    """Return how many bands have so many letters."""
    follow = follow_table(plan)
    totals = [0] * (length + 1)
    for start in range(len(follow)):
        row = [0] * len(follow)
        row[start] = 1
        for steps in range(1, length + 1):
            row = _followed(follow, row)
            totals[steps] += row[start]
    return primitive_number(length, totals) // (2 * length)


def letters_behind(plan):
    """Return a list, as follow_table, of dicts of the letters that come somewhere behind each letter."""
    follow = follow_table(plan)
    table = []
    for behind in follow:
        met = {letter: True for letter in behind}
        waiting = list(behind)
        while waiting:
            here = waiting.pop()
            for letter in follow[here]:
                if letter not in met:
                    met[letter] = True
                    waiting.append(letter)
        table.append(met)
    return table


def round_rows(plan):
    """Return a list of all rounds, each begun with its least letter, or None if they are endlessly many.

    They are endlessly many exactly if two letters that follow one letter both
    lead back to it: rounds that share a letter can be put together anyhow.
    """
    follow = follow_table(plan)
    behind = letters_behind(plan)
    many = len(plan[1])
    rows = []
    for letter in range(-many, many):
        if letter not in behind[letter]:
            continue
        row = []
        here = letter
        while not row or here != letter:
            row.append(here)
            returning = [other for other in follow[here] if letter == other or letter in behind[other]]
            if len(returning) > 1:
                return None
            here = returning[0]
        if letter == min(row):
            rows.append(tuple(row))
    return rows


def growth(plan):
    """Return -1 without bands, None for endlessly many, otherwise with which power strings grow."""
    rows = round_rows(plan)
    if rows is None:
        return None
    behind = letters_behind(plan)
    longest = {row: 0 for row in rows}
    # A row of rounds has each one once, so no more sweeps than rounds are needed.
    for _ in rows:
        for row in rows:
            led = [other for other in rows if other != row and other[0] in behind[row[0]]]
            longest[row] = max([longest[other] + 1 for other in led], default=0)
    return max(list(longest.values()), default=-1)
