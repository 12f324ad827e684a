"""Roads: strings translated on and on."""

from stringrooms.errors import TooGreat
from stringrooms.translating import back, forth, hooks
from stringrooms.walks import sizes_of, string_of


def road(plan, string, most):
    """Return ("end", N) or ("ring", N) for a string translated forth; TooGreat for neither in most steps."""
    return _road(plan, string, most, forth)


def road_back(plan, string, most):
    """Return ("end", N) or ("ring", N) for a string translated back; TooGreat for neither in most steps."""
    return _road(plan, string, most, back)


def _road(plan, string, most, step):
    start = string_of(plan, string)
    here = step(plan, start)
    for steps in range(1, most + 1):
        if here is None:
            return ("end", steps - 1)
        if here == start:
            return ("ring", steps)
        here = step(plan, here)
    if here is None:
        return ("end", most)
    raise TooGreat(most)


def rows_of(plan, string, most):
    """Return the units of a string and of those behind it, at most most steps on."""
    told = []
    here = string_of(plan, string)
    while here is not None and len(told) <= most:
        told.append(sizes_of(plan, here))
        here = forth(plan, here)
    return tuple(told)


def grows(plan, string):
    """Tell whether a string has two hooks."""
    left, right = hooks(plan, string)
    return bool(left) and bool(right)
