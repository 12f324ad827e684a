"""Lots: strings and marks at peace with one another; full lots, their signs, and lots made full."""

from stringrooms.closed import MOST_CLOSED, lot_of_closed
from stringrooms.errors import NotLot, NotWalk
from stringrooms.helping import is_row, solved_whole
from stringrooms.making import made_among, reach
from stringrooms.peace import sign_of
from stringrooms.pieces import map_number
from stringrooms.rests import cover_of
from stringrooms.rounds import few_strings
from stringrooms.translating import back
from stringrooms.walks import check_walk, points_of, string_of


def check_lot(plan, value):
    """Return the value if it is a lot; raise NotLot with the first word that fits otherwise."""
    if not isinstance(value, tuple) or len(value) != 2 or not all(isinstance(half, tuple) for half in value):
        raise NotLot("form")
    strings, points = value
    if not is_row(points, len(points), 0, plan[0]) or not _ascends(points):
        raise NotLot("form")
    for string in strings:
        if not _is_string(plan, string):
            raise NotLot("walk")
    if not _ascends(strings):
        raise NotLot("twice")
    before = [back(plan, string) for string in strings]
    goals = [there for there in before if there is not None]
    for string in strings:
        if any(map_number(plan, string, goal) > 0 for goal in goals):
            raise NotLot("unlike")
    for string in strings:
        if any(point in points for point in points_of(plan, string)):
            raise NotLot("less")
    return value


def _ascends(row):
    """Tell whether a tuple is ascending without repetition."""
    return all(row[at] < row[at + 1] for at in range(len(row) - 1))


def _is_string(plan, value):
    try:
        check_walk(plan, value)
    except NotWalk:
        return False
    return value == string_of(plan, value)


def is_full(plan, lot):
    """Tell whether no string and no mark can be put into a lot: whether it has as many members as there are points."""
    return len(lot[0]) + len(lot[1]) == plan[0]


def check_full(plan, lot):
    """Raise NotLot("few") if a lot is not full."""
    if not is_full(plan, lot):
        raise NotLot("few")


def most_lot(plan):
    """Return the full lot of all covers."""
    return (tuple(sorted([cover_of(plan, point) for point in range(plan[0])])), ())


def least_lot(plan):
    """Return the full lot of all marks."""
    return ((), tuple(range(plan[0])))


def sign_rows(plan, lot):
    """Return the signs of the members of a lot."""
    marks = [tuple(-1 if point == other else 0 for other in range(plan[0])) for point in lot[1]]
    return tuple([sign_of(plan, string) for string in lot[0]] + marks)


def written(plan, lot, numbers):
    """Return the integers with which the sign rows of a full lot add up to numbers; NotLot("few") if it is not full."""
    check_full(plan, lot)
    rows = sign_rows(plan, lot)
    columns = [[row[point] for row in rows] for point in range(plan[0])]
    # The determinant is 1 or -1.
    whole, told = solved_whole(columns, [[number] for number in numbers])
    return tuple(whole * row[0] for row in told)


def completed(plan, lot):
    """Return the full lot with all members of a lot that makes the most; Endless with bands, TooGreat(300)."""
    every = few_strings(plan, MOST_CLOSED)
    return lot_of_closed(plan, made_among(plan, lot, every))


def completed_least(plan, lot):
    """Return the full lot with all members of a lot that makes the fewest; Endless with bands, TooGreat(300)."""
    every = few_strings(plan, MOST_CLOSED)
    reached = [string for string in every if len(reach(plan, lot[0], string)) == len(string[1]) + 1]
    return lot_of_closed(plan, reached)
