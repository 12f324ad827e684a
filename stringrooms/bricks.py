"""Bricks: strings with one map to themselves, sets of them that are apart, and the steps from lot to lot."""

from stringrooms.closed import closed_by, lot_of_closed
from stringrooms.errors import Endless, NotPaper, TooGreat
from stringrooms.exchanges import Lines, greatest_in, members_of, own_places, step_in
from stringrooms.layers import let_go_strings, sub_strings
from stringrooms.lots import check_full
from stringrooms.maps import is_brick
from stringrooms.pieces import map_number
from stringrooms.rounds import all_strings, has_bands
from stringrooms.walks import strings_upto

MOST_SETS = 500


def bricks(plan):
    """Return all bricks, ascending; Endless with bands, TooGreat for more than 2000 strings."""
    return tuple(string for string in all_strings(plan) if is_brick(plan, string))


def bricks_upto(plan, length):
    """Return the bricks of at most so many letters, ascending; TooGreat for more than 2000 strings of them."""
    return tuple(string for string in strings_upto(plan, length) if is_brick(plan, string))


def steps_down(plan, lot):
    """Return the pairs (NUMBER, PIECE) of the members whose exchange has WAY -1, ascending; TooGreat(400)."""
    return _steps(plan, lot, -1)


def steps_up(plan, lot):
    """Return the pairs (NUMBER, PIECE) of the members whose exchange has WAY 1, ascending; TooGreat(400)."""
    return _steps(plan, lot, 1)


def _steps(plan, lot, goal):
    check_full(plan, lot)
    lines = Lines(plan)
    members = members_of(lot)
    found = []
    for number, places in enumerate(own_places(members, greatest_in(lines, members))):
        _, _, piece, way, _ = step_in(lines, members, number, places)
        if way == goal:
            found.append((number, piece))
    return tuple(found)


def are_apart(plan, strings):
    """Tell whether strings are bricks without a map from one to another one."""
    for string in strings:
        if not is_brick(plan, string):
            return False
        if any(string != other and map_number(plan, string, other) > 0 for other in strings):
            return False
    return True


def lot_of_bricks(plan, strings):
    """Return the full lot of the least closed set that holds some bricks; Endless, NotPaper("maps"), TooGreat(300)."""
    if has_bands(plan):
        raise Endless()
    if not are_apart(plan, strings):
        raise NotPaper("maps")
    return lot_of_closed(plan, closed_by(plan, strings))


def brick_sets(plan):
    """Return all sets of bricks that are apart, ascending; Endless, TooGreat(2000), TooGreat for more than 500."""
    every = bricks(plan)
    if len(every) >= MOST_SETS:
        raise TooGreat(MOST_SETS)
    apart = _apart_behind(plan, every)
    found = [()]
    waiting = [((), list(range(len(every))))]
    while waiting:
        numbers, fitting = waiting.pop()
        for number in fitting:
            longer = numbers + (number,)
            found.append(longer)
            waiting.append((longer, [other for other in fitting if other in apart[number]]))
        if len(found) > MOST_SETS:
            raise TooGreat(MOST_SETS)
    return tuple(tuple(every[number] for number in numbers) for numbers in sorted(found))


def _apart_behind(plan, every):
    """Return for each brick a dict of the numbers of those behind it that have no maps to it or from it."""
    gone = [let_go_strings(plan, brick) for brick in every]
    taken = [sub_strings(plan, brick) for brick in every]
    letting, taking = _bearers(gone), _bearers(taken)
    table = []
    for number in range(len(every)):
        barred = {}
        for piece in gone[number]:
            barred.update({other: True for other in taking.get(piece, [])})
        for piece in taken[number]:
            barred.update({other: True for other in letting.get(piece, [])})
        table.append({other: True for other in range(number + 1, len(every)) if other not in barred})
    return table


def _bearers(rows):
    """Return a dict: for each piece that stands in a row the numbers of these rows."""
    found = {}
    for number, row in enumerate(rows):
        for piece in row:
            found.setdefault(piece, []).append(number)
    return found
