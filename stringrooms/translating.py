"""Strings translated: hooks and pulls, one step forth and back, the strings in the middle."""

from stringrooms.errors import NoWay
from stringrooms.pieces import piece_of
from stringrooms.plans import ahead_of, from_point, mate_of, next_of
from stringrooms.walks import goings, string_of, turned


def hooks(plan, string):
    """Return the pair of rows (left, right) of the hooks of a walk, the left one for it turned about."""
    return _both_rows(plan, string, -1)


def pulled(plan, string):
    """Return the pair of rows (left, right) of the pulls of a walk likewise."""
    return _both_rows(plan, string, 1)


# Below, a sign tells what is put on: -1 hooks, which begin with a letter
# against, 1 pulls, which begin with a letter along.


def _both_rows(plan, walk, sign):
    if walk[1]:
        return (_right_row(plan, turned(plan, walk), sign), _right_row(plan, walk, sign))
    arrows = sorted(_arrow(letter) for letter in from_point(plan, walk[0]) if _has_sign(letter, sign))
    rows = [_row(plan, arrow, sign) for arrow in arrows] + [(), ()]
    return (rows[1], rows[0])


def _has_sign(letter, sign):
    return (letter >= 0) == (sign == 1)


def _arrow(letter):
    return letter if letter >= 0 else -1 - letter


def _right_row(plan, walk, sign):
    """Return the row that is put behind a walk of at least one letter, () for none."""
    for letter in goings(plan, walk):
        if _has_sign(letter, sign):
            return _row(plan, _arrow(letter), sign)
    return ()


def _row(plan, arrow, sign):
    """Return the hook or the pull by an arrow."""
    first = arrow if sign == 1 else -1 - arrow
    row = [first]
    here = mate_of(plan, -1 - first)
    while here is not None:
        row.append(here)
        if sign == 1:
            behind = ahead_of(plan, _arrow(here))
            here = None if behind is None else -1 - behind
        else:
            here = next_of(plan, here)
    return tuple(row)


def forth(plan, string):
    """Return the string one step on, or None."""
    return _step(plan, string, -1)


def back(plan, string):
    """Return the string one step back, or None."""
    return _step(plan, string, 1)


def _step(plan, walk, sign):
    left, right = _both_rows(plan, walk, sign)
    if left and right:
        return string_of(plan, _put(turned(plan, _put(walk, right)), left))
    if right:
        return string_of(plan, _without_first(plan, _put(walk, right), sign))
    if left:
        return string_of(plan, _without_first(plan, _put(turned(plan, walk), left), sign))
    same = [place for place, letter in enumerate(walk[1]) if _has_sign(letter, sign)]
    others = [place for place, letter in enumerate(walk[1]) if not _has_sign(letter, sign)]
    if same and others and same[0] < others[-1]:
        return string_of(plan, piece_of(plan, walk, same[0] + 1, others[-1]))
    return None


def _put(walk, row):
    return (walk[0], walk[1] + row)


def _without_first(plan, walk, sign):
    """Return the walk without all letters up to and with the first one of a sign."""
    first = [_has_sign(letter, sign) for letter in walk[1]].index(True)
    return piece_of(plan, walk, first + 1, len(walk[1]))


def forth_times(plan, string, number):
    """Return the string so many steps on, or back for a number below 0, or None as soon as there is none."""
    told = string_of(plan, string)
    for _ in range(abs(number)):
        if told is not None:
            told = forth(plan, told) if number > 0 else back(plan, told)
    return told


def middle(plan, string):
    """Return the strings made of a string at each of its ends, by hooks, ascending."""
    return _made_at_ends(plan, string, -1)


def back_middle(plan, string):
    """Return the strings made of a string at each of its ends, by pulls, ascending."""
    return _made_at_ends(plan, string, 1)


def _made_at_ends(plan, walk, sign):
    left, right = _both_rows(plan, walk, sign)
    found = []
    for reading, row in ((turned(plan, walk), left), (walk, right)):
        others = [place for place, letter in enumerate(reading[1]) if not _has_sign(letter, sign)]
        if row:
            found.append(string_of(plan, _put(reading, row)))
        elif others:
            found.append(string_of(plan, piece_of(plan, reading, 0, others[-1])))
    return tuple(sorted(found))


def almost_split(plan, string):
    """Return the triple of a string, its middle and forth; raise NoWay if there is no forth."""
    there = forth(plan, string)
    if there is None:
        raise NoWay()
    return (string_of(plan, string), middle(plan, string), there)
