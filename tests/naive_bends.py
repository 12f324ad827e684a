"""Plain reckoning of covers, rests and bends, written from the definitions alone, for the tests."""

import itertools

from tests import naive, naive_rooms


def ways_from(plan, point):
    """All ways from a point as rows of arrows, by going on arrow by arrow."""
    found, rows = [()], [(a,) for a in range(len(plan[1])) if plan[1][a][0] == point]
    while rows:
        found += rows
        rows = [row + (b,) for row in rows for b in range(len(plan[1]))
                if plan[1][b][0] == plan[1][row[-1]][1] and (row[-1], b) not in plan[2]]
    return found


def cover(plan, point):
    """The string with a place for each way from a point."""
    ways = ways_from(plan, point)
    ends = [row for row in ways if row and not any(other[:-1] == row for other in ways)] + [(), ()]
    start = plan[1][ends[0][-1]][1] if ends[0] else point
    told = (start, tuple(-1 - a for a in reversed(ends[0])) + ends[1])
    assert len(told[1]) + 1 == len(ways)
    return naive.string(plan, told)


def tops(walk):
    row = walk[1]
    return [k for k in range(len(row) + 1) if not (k > 0 and row[k - 1] >= 0) and not (k < len(row) and row[k] < 0)]


def led_along(walk, place, way):
    """The place to which a way of arrows leads a place of a walk, or None."""
    here = place
    for arrow in way:
        if here < len(walk[1]) and walk[1][here] == arrow:
            here += 1
        elif here > 0 and walk[1][here - 1] == -1 - arrow:
            here -= 1
        else:
            return None
    return here


def cover_map(plan, walk):
    """The room of the covers of all tops of a walk, and the map from it to the walk's room, with numbers 0 and 1."""
    points = naive.points(plan, walk)
    units = [[] for _ in range(plan[0])]
    for top in tops(walk):
        for way in ways_from(plan, points[top]):
            units[plan[1][way[-1]][1] if way else points[top]].append((top, way))
    tables = []
    for a, (p, q) in enumerate(plan[1]):
        tables.append(tuple(tuple(int((top, way + (a,)) == unit) for unit in units[q]) for top, way in units[p]))
    told = []
    for p in range(plan[0]):
        there = [k for k in range(len(points)) if points[k] == p]
        told.append(tuple(tuple(int(led_along(walk, *unit) == k) for k in there) for unit in units[p]))
    return (tuple(map(len, units)), tuple(tables)), tuple(told)


def bend_places(plan, room, other):
    return [(a, i, j) for a, (p, q) in enumerate(plan[1]) for i in range(room[0][p]) for j in range(other[0][q])]


def bend_equations(plan, prime, room, other):
    """For each entry that each nought asks to be nothing the row of what each number of a bend counts in it."""
    index = {place: k for k, place in enumerate(bend_places(plan, room, other))}
    rows = []
    for a, b in plan[2]:
        for i in range(room[0][plan[1][a][0]]):
            for j in range(other[0][plan[1][b][1]]):
                row = [0] * len(index)
                for k in range(room[0][plan[1][a][1]]):
                    row[index[b, k, j]] += room[1][a][i][k]
                for k in range(other[0][plan[1][a][1]]):
                    row[index[a, i, k]] += other[1][b][k][j]
                rows.append([x % prime for x in row])
    return rows


def changed_bends(plan, prime, room, other):
    """For each number of a change of units the bend that it makes, as one row."""
    index = {place: k for k, place in enumerate(bend_places(plan, room, other))}
    rows = []
    for p, many in enumerate(room[0]):
        for i, j in itertools.product(range(many), range(other[0][p])):
            row = [0] * len(index)
            for a, (start, end) in enumerate(plan[1]):
                if end == p:
                    for k in range(room[0][start]):
                        row[index[a, k, j]] += room[1][a][k][i]
                if start == p:
                    for k in range(other[0][end]):
                        row[index[a, i, k]] -= other[1][a][j][k]
            rows.append([x % prime for x in row])
    return rows


def bend_number(plan, prime, room, other):
    many = len(bend_places(plan, room, other))
    rank = naive_rooms.rank
    return (many - rank(prime, bend_equations(plan, prime, room, other))
            - rank(prime, changed_bends(plan, prime, room, other)))


def bend_row(bend):
    return tuple(x for table in bend for row in table for x in row)


def bend_of(plan, room, other, row):
    told = {place: x for place, x in zip(bend_places(plan, room, other), row)}
    return tuple(tuple(tuple(told[a, i, j] for j in range(other[0][q])) for i in range(room[0][p]))
                 for a, (p, q) in enumerate(plan[1]))
