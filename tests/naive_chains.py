"""Plain chains, and what they stand for by tables, written from the definitions alone, and drawn chains."""

from stringrooms.apart import parts_of_room
from stringrooms.fields import kernel, reduced
from stringrooms.rooms import left_room, sub_room
from stringrooms.tables import solved
from tests import naive_rooms
from tests.naive_bends import ways_from


def every_way(plan):
    """All ways of at least one arrow, as rows of arrows."""
    return [row for p in range(plan[0]) for row in ways_from(plan, p) if row]


def ends(plan, step):
    told = (plan[1][step[1][0]][0], plan[1][step[1][-1]][1])
    return told if step[0] == 1 else told[::-1]


def together(plan, one, two):
    """Whether a step may stand behind another one."""
    if ends(plan, one)[1] != ends(plan, two)[0]:
        return False
    if one[0] == two[0]:
        first, second = (one, two) if one[0] == 1 else (two, one)
        return (first[1][-1], second[1][0]) in plan[2]
    place = -1 if one[0] == 1 else 0
    return one[1][place] != two[1][place]


def behind(plan, chain):
    """All steps that may be put behind a chain."""
    steps = [(turn, row) for row in every_way(plan) for turn in (1, -1)]
    if chain[1]:
        return [step for step in steps if together(plan, chain[1][-1], step)]
    return [step for step in steps if ends(plan, step)[0] == chain[0]]


def all_chains(plan, most):
    """All chains with at most so many steps."""
    found = row = [(p, ()) for p in range(plan[0])]
    for _ in range(most):
        row = [(c[0], c[1] + (step,)) for c in row for step in behind(plan, c)]
        found = found + row
    return found


def drawn_chain(rng, plan, most=6):
    chain = (rng.randrange(plan[0]), ())
    for _ in range(rng.randint(0, most)):
        steps = behind(plan, chain)
        if not steps:
            break
        chain = (chain[0], chain[1] + (rng.choice(steps),))
    return chain


def points(plan, chain):
    return [chain[0]] + [ends(plan, step)[1] for step in chain[1]]


def degrees(chain):
    told = [sum(step[0] for step in chain[1][:k]) for k in range(len(chain[1]) + 1)]
    return [d - min(told) for d in told]


def about(plan, chain):
    return (points(plan, chain)[-1], tuple((-turn, row) for turn, row in reversed(chain[1])))


def units(plan, chain):
    """All units, pairs of a place and a way from its point."""
    return [(k, row) for k, p in enumerate(points(plan, chain)) for row in ways_from(plan, p)]


def led(plan, chain, unit):
    """The units to whose sum a unit is led by the leadings of its place."""
    k, row = unit
    found = []
    for place, step, turn in ((k - 1, k - 1, 1), (k + 1, k, -1)):
        if 0 <= step < len(chain[1]) and chain[1][step][0] == turn:
            long = chain[1][step][1] + row
            if all(pair not in plan[2] for pair in zip(long, long[1:])):
                found.append((place, long))
    return found


def _complex(plan, chain):
    """The rooms of the degrees, and the maps from each one to the one below."""
    lying, deg = points(plan, chain), degrees(chain)
    lots = [[[] for _ in range(plan[0])] for _ in range(max(deg) + 1)]
    for k, row in units(plan, chain):
        lots[deg[k]][plan[1][row[-1]][1] if row else lying[k]].append((k, row))
    rooms, maps = [], [None]
    for lot in lots:
        tables = tuple(tuple(tuple(int((k, row + (a,)) == unit) for unit in lot[q]) for k, row in lot[p])
                       for a, (p, q) in enumerate(plan[1]))
        rooms.append((tuple(map(len, lot)), tables))
    for high, low in zip(lots[1:], lots):
        maps.append([tuple(tuple(int(goal in led(plan, chain, unit)) for goal in low[q]) for unit in high[q])
                     for q in range(plan[0])])
    return rooms, maps


def remains(plan, prime, chain):
    """The strings of the remains of each degree, by tables; None where one has more than 16 units."""
    rooms, maps = _complex(plan, chain)
    told = []
    for degree, room in enumerate(rooms):
        base = tuple(kernel(t, prime) if degree else naive_rooms.eye(n)
                     for t, n in zip(maps[degree] or room[0], room[0]))
        room = sub_room(plan, prime, room, base)
        if degree + 1 < len(rooms):
            gone = tuple(reduced(tuple(solved(rows, prime, row) for row in table), prime)
                         for table, rows in zip(maps[degree + 1], base))
            room = left_room(plan, prime, room, gone)
        if sum(room[0]) > 16:
            return None
        strings, bands = parts_of_room(plan, prime, room)
        assert not bands
        told.append(tuple(sorted(string for string, many in strings for _ in range(many))))
    return tuple(told)


def plain_maps(plan, chain, other, shift):
    p, q, d, e = points(plan, chain), points(plan, other), degrees(chain), degrees(other)
    return [(i, j, row) for i in range(len(p)) for j in range(len(q)) if d[i] - e[j] == shift
            for row in ways_from(plan, q[j]) if (plan[1][row[-1]][1] if row else q[j]) == p[i]]


def _led_on(plan, chain, other, shift, told):
    """What a plain map leads on to, as a dict of pairs of units."""
    i, j, way = told
    pairs = []
    for k, row in units(plan, chain):
        long = way + row
        if k == i and all(pair not in plan[2] for pair in zip(long, long[1:])):
            pairs.append(((k, row), (j, long)))
    out = {}
    for one, two in pairs:
        for goal in led(plan, other, two):
            out[one, goal] = out.get((one, goal), 0) + 1
    for unit in units(plan, chain):
        for goal in led(plan, chain, unit):
            for one, two in pairs:
                if one == goal:
                    out[unit, two] = out.get((unit, two), 0) - (-1) ** (shift % 2)
    return out


def number(plan, prime, chain, other, shift):
    """The number of maps of a shift, by tables over all units."""
    told = 0
    for at in (shift, shift - 1):
        rows = [_led_on(plan, chain, other, at, one) for one in plain_maps(plan, chain, other, at)]
        columns = {key: n for n, key in enumerate({key for row in rows for key in row})}
        table = [[0] * len(columns) for _ in rows]
        for line, row in zip(table, rows):
            for key, x in row.items():
                line[columns[key]] = x % prime
        told += (len(rows) if at == shift else 0) - naive_rooms.rank(prime, table)
    return told
