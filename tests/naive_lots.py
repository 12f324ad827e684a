"""Plain searches for lots and closed sets, and drawn lots, for the tests."""

import random

from stringrooms.bending import middle_rooms
from stringrooms.exchanges import exchange
from stringrooms.layers import let_go_strings
from stringrooms.lots import least_lot, most_lot
from stringrooms.peace import are_peaceful, is_peaceful
from stringrooms.pieces import map_number
from stringrooms.rounds import all_strings, has_bands
from tests import naive
from tests.naive import raised


def without_bands(seed, many, most=5, strings=40):
    """Plans without bands and with few strings."""
    return [plan for plan in naive.plans_for(seed, many, most)
            if not has_bands(plan) and raised(all_strings, plan)[0] != "TooGreat" and len(all_strings(plan)) <= strings]


def small_ones(seed, many, most=4, strings=30, points=5):
    return [plan for plan in without_bands(seed, many, most, strings) if plan[0] <= points]


def fits(plan, one, other):
    """Whether two members, ("string", S) or ("less", P), are at peace."""
    if one[0] == other[0]:
        return one[0] == "less" or are_peaceful(plan, one[1], other[1])
    string, point = (one[1], other[1]) if one[0] == "string" else (other[1], one[1])
    return point not in naive.points(plan, string)


def members(plan, strings=None):
    strings = all_strings(plan) if strings is None else strings
    return ([("string", s) for s in strings if is_peaceful(plan, s)] + [("less", p) for p in range(plan[0])])


def lot_of(some):
    return tuple(tuple(sorted(m[1] for m in some if m[0] == kind)) for kind in ("string", "less"))


def all_lots(plan):
    """All full lots, by trying all sets of members one by one: those to which none can be put."""
    every = members(plan)
    peace = {(a, b): fits(plan, a, b) for a in every for b in every}
    found = []

    def grow(some, left):
        if not left:
            if not any(m not in some and all(peace[m, x] for x in some) for m in every):
                found.append(lot_of(some))
            return
        first, rest = left[0], left[1:]
        grow(some + [first], [m for m in rest if peace[first, m]])
        grow(some, rest)
    grow([], every)
    return tuple(sorted(found))


def drawn_lot(rng, plan, most=6):
    """A full lot some drawn exchanges from the one that makes most or least."""
    lot = rng.choice((most_lot, least_lot))(plan)
    for _ in range(rng.randint(0, most)):
        told = raised(exchange, plan, lot, rng.randrange(plan[0]))
        if told[0] == "TooGreat" or any(len(s[1]) > 60 for s in told[1][0]):
            break
        lot = told[1]
    return lot


def some_of(rng, lot):
    """A lot of some of a lot's members."""
    return tuple(tuple(m for m in half if rng.random() < 0.5) for half in lot)


def grown_closed(plan, strings):
    """The least closed set, by putting in what pieces and middle rooms ask for again and again."""
    told = set(strings)
    waiting = list(told)
    while waiting:
        one = waiting.pop()
        new = set(let_go_strings(plan, one))
        for other in list(told):
            for a, b in ((one, other), (other, one)):
                new |= {s for room in middle_rooms(plan, a, b) for s in room}
        waiting += new - told
        told |= new
    return tuple(sorted(told))


def free_of(plan, strings):
    return tuple(x for x in all_strings(plan) if not any(map_number(plan, s, x) for s in strings))


def before(plan, strings):
    return tuple(x for x in all_strings(plan) if not any(map_number(plan, x, s) for s in strings))


def drawn_strings(rng, strings, most=4):
    return tuple(sorted(rng.sample(strings, rng.randint(0, min(most, len(strings))))))


def rng_plans(seed, plans):
    rng = random.Random(seed)
    for plan in plans:
        yield rng, plan
