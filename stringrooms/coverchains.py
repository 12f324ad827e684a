"""The chains made of a walk and all its rests, and the walk of such a chain."""

from stringrooms.chains import chain_of
from stringrooms.errors import Endless, NoWay
from stringrooms.farrests import rest_length
from stringrooms.layers import tops
from stringrooms.pieces import piece_of
from stringrooms.plans import nil_of
from stringrooms.remains import remains_of
from stringrooms.rests import tail_ends
from stringrooms.walks import turned


def cover_chain(plan, walk):
    """Return the chain of a walk and all its rests; raise Endless if these do not end."""
    many = rest_length(plan, walk)
    if many is None:
        raise Endless()
    return _chain_upto(plan, walk, many)


def cut_chain(plan, walk, steps):
    """Return the chain of a walk and its rests of at most so many steps, from 1 on."""
    return _chain_upto(plan, walk, steps)


def walk_of_chain(plan, chain):
    """Return the string whose cover chain a chain or it turned is; raise NoWay if there is none."""
    remains = remains_of(plan, chain)
    # A chain is the cover chain of a string just if it leaves this string in degree 0, and nothing else.
    if len(remains[0]) != 1 or any(remains[1:]):
        raise NoWay()
    return remains[0][0]


def _chain_upto(plan, walk, most):
    """Return the chain of the places of degrees 0 to most."""
    places = tops(plan, walk)
    first, last = places[0], places[-1]
    arrows = tail_ends(plan, walk)
    left = _steps_behind(plan, turned(plan, piece_of(plan, walk, 0, first)), arrows[0], most)
    right = _steps_behind(plan, piece_of(plan, walk, last, len(walk[1])), arrows[1], most)
    inner = _steps_between(walk[1][first:last])
    start = piece_of(plan, walk, first, first)[0]
    if left:
        start = plan[1][left[-1][1][-1]][1]
    about = tuple((-1, way) for _, way in left[::-1])
    return chain_of(plan, (start, about + inner + right))


def _steps_behind(plan, walk, arrow, most):
    """Return the steps along from the last top, at which a way begins, over a tail and its rests, at most so many."""
    if arrow is None:
        return ()
    steps = [(1, walk[1] + (arrow,))]
    here = nil_of(plan, arrow)
    while here is not None and len(steps) < most:
        steps.append((1, (here,)))
        here = nil_of(plan, here)
    return tuple(steps)


def _steps_between(letters):
    """Return the steps of a row of letters from its first top to its last one."""
    steps = []
    at = 0
    for place in range(1, len(letters) + 1):
        if place == len(letters) or (letters[place] >= 0) != (letters[at] >= 0):
            row = letters[at:place]
            steps.append((1, row) if row[0] >= 0 else (-1, tuple(-1 - letter for letter in row[::-1])))
            at = place
    return tuple(steps)
