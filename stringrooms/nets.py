"""Nets: all strings of a plan without bands, steps between them, and the table of their maps."""

from stringrooms.errors import TooGreat
from stringrooms.helping import is_integer
from stringrooms.layers import hull_of
from stringrooms.pieces import let_go, piece_of, taken_in
from stringrooms.rests import cover_of
from stringrooms.rounds import all_strings
from stringrooms.translating import back_middle, forth, middle
from stringrooms.walks import string_of

MOST_IN_TABLE = 100


def net(plan):
    """Return all strings, ascending; Endless with bands, TooGreat for more than 2000, as all functions here."""
    return all_strings(plan)


def _numbered(strings):
    """Return a dict with the number of each string."""
    return {string: number for number, string in enumerate(strings)}


def _steps_from(plan):
    """Return for each string the list of the numbers of its middle, ascending as strings and their numbers do."""
    strings = net(plan)
    numbers = _numbered(strings)
    return [[numbers[there] for there in middle(plan, string)] for string in strings]


def net_steps(plan):
    """Return all steps as pairs of numbers, ascending, as often as they come."""
    return tuple((number, there) for number, led in enumerate(_steps_from(plan)) for there in led)


def meshes(plan):
    """Return the triples (number, numbers of its middle, number of forth) of the strings with a forth, ascending."""
    strings = net(plan)
    numbers = _numbered(strings)
    told = []
    for number, string in enumerate(strings):
        there = forth(plan, string)
        if there is not None:
            between = tuple(numbers[other] for other in middle(plan, string))
            told.append((number, between, numbers[there]))
    return tuple(told)


def covers_in(plan):
    """Return for each point the number of its cover."""
    numbers = _numbered(net(plan))
    return tuple(numbers[cover_of(plan, point)] for point in range(plan[0]))


def hulls_in(plan):
    """Return for each point the number of its hull."""
    numbers = _numbered(net(plan))
    return tuple(numbers[hull_of(plan, point)] for point in range(plan[0]))


def distance(plan, one, other):
    """Return the least number of steps from one string to another one, or None if none lead there."""
    net(plan)
    goal = string_of(plan, other)
    steps = {string_of(plan, one): 0}
    waiting = list(steps)
    at = 0
    while at < len(waiting):
        here = waiting[at]
        if here == goal:
            return steps[here]
        for there in middle(plan, here):
            if there not in steps:
                steps[there] = steps[here] + 1
                waiting.append(there)
        at += 1
    return None


def net_parts(plan):
    """Return the parts that hang together by steps either way, by their least numbers."""
    led = _steps_from(plan)
    beside = [list(row) for row in led]
    for number, row in enumerate(led):
        for there in row:
            beside[there].append(number)
    done = {}
    parts = []
    for number in range(len(beside)):
        if number in done:
            continue
        done[number] = True
        part = [number]
        at = 0
        while at < len(part):
            here = part[at]
            for there in beside[here]:
                if there not in done:
                    done[there] = True
                    part.append(there)
            at += 1
        parts.append(tuple(sorted(part)))
    return tuple(parts)


def _few(plan):
    """Return all strings; raise TooGreat also for more than 100."""
    strings = net(plan)
    if len(strings) > MOST_IN_TABLE:
        raise TooGreat(MOST_IN_TABLE)
    return strings


def map_table(plan):
    """Return the table of the numbers of maps between all strings; TooGreat also for more than 100 strings."""
    strings = _few(plan)
    met = {}
    for number, string in enumerate(strings):
        for first, last in taken_in(plan, string):
            met.setdefault(string_of(plan, piece_of(plan, string, first, last)), []).append(number)
    table = []
    for string in strings:
        row = [0] * len(strings)
        # A pair is a piece let go and one taken in of one and the same string.
        for first, last in let_go(plan, string):
            for number in met.get(string_of(plan, piece_of(plan, string, first, last)), []):
                row[number] += 1
        table.append(tuple(row))
    return tuple(table)


def knits(plan, rows):
    """Tell whether a value is a square table that meets what each mesh and each cover asks of map_table."""
    strings = _few(plan)
    many = len(strings)
    if not isinstance(rows, tuple) or len(rows) != many:
        return False
    for row in rows:
        if not isinstance(row, tuple) or len(row) != many or not all(is_integer(entry) for entry in row):
            return False
    asked = [(there, [(number, 1)] + [(other, -1) for other in between]) for number, between, there in meshes(plan)]
    numbers = _numbered(strings)
    for point in range(plan[0]):
        cover = cover_of(plan, point)
        asked.append((numbers[cover], [(numbers[other], -1) for other in back_middle(plan, cover)]))
    for number, row in enumerate(rows):
        for there, others in asked:
            total = row[there] + sum(sign * row[other] for other, sign in others)
            if total != (1 if there == number else 0):
                return False
    return True
