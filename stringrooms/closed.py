"""Closed sets of strings of plans without bands, and the full lots that make them."""

from stringrooms.errors import NotPaper
from stringrooms.layers import let_go_strings, sub_strings
from stringrooms.making import made_among
from stringrooms.rounds import few_strings
from stringrooms.translating import back
from stringrooms.walks import points_of

MOST_CLOSED = 300


def free_of(plan, strings):
    """Return all strings to which none of some strings has a map; Endless with bands, TooGreat(300), as all here."""
    every = few_strings(plan, MOST_CLOSED)
    gone = _pieces(plan, strings, let_go_strings)
    return tuple(_without(plan, every, gone, sub_strings))


def before(plan, strings):
    """Return all strings that have a map to none of some strings."""
    every = few_strings(plan, MOST_CLOSED)
    taken = _pieces(plan, strings, sub_strings)
    return tuple(_without(plan, every, taken, let_go_strings))


# A string has a map to another one exactly if a piece of it that is let go
# and a piece of the other one that is taken in are one string.


def _pieces(plan, strings, pieces):
    """Return a dict of the strings of all pieces, of one of both kinds, of some strings."""
    found = {}
    for string in strings:
        found.update({piece: True for piece in pieces(plan, string)})
    return found


def _without(plan, strings, barred, pieces):
    """Return those of some strings that have no piece, of one of both kinds, that is barred."""
    return [string for string in strings if not any([piece in barred for piece in pieces(plan, string)])]


def closed_by(plan, strings):
    """Return the least closed set that holds some strings."""
    return before(plan, free_of(plan, strings))


def is_closed(plan, strings):
    """Tell whether a set of strings is closed."""
    return closed_by(plan, strings) == strings


def lot_made(plan, strings):
    """Return the full lot that makes just these strings; raise NotPaper("open") if they are not closed."""
    if not is_closed(plan, strings):
        raise NotPaper("open")
    return lot_of_closed(plan, strings)


def lot_of_closed(plan, strings):
    """Return the full lot that makes just the strings of a closed set.

    Its strings are those of the set to whose back none of the set has a map,
    its points are those at which no string of the set has a place.
    """
    gone = _pieces(plan, strings, let_go_strings)
    members = []
    points = {}
    for string in strings:
        points.update({point: True for point in points_of(plan, string)})
        there = back(plan, string)
        if there is None or _without(plan, [there], gone, sub_strings):
            members.append(string)
    return (tuple(members), tuple(point for point in range(plan[0]) if point not in points))


def meet(plan, lot, other):
    """Return the full lot that makes just the strings that both make."""
    every = few_strings(plan, MOST_CLOSED)
    return lot_of_closed(plan, made_among(plan, other, made_among(plan, lot, every)))


def join(plan, lot, other):
    """Return the full lot that makes the least closed set that holds what either makes."""
    every = few_strings(plan, MOST_CLOSED)
    either = made_among(plan, lot, every) + made_among(plan, other, every)
    return lot_of_closed(plan, closed_by(plan, either))
