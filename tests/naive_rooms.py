"""Plain reckoning with tables and rooms, written from the definitions alone, and drawn rooms for the tests."""

import itertools

from tests import naive


def mul(prime, a, b, width):
    return tuple(tuple(sum(x * b[k][j] for k, x in enumerate(row)) % prime for j in range(width)) for row in a)


def eye(n):
    return tuple(tuple(int(i == j) for j in range(n)) for i in range(n))


def rank(prime, rows):
    """The number of independent rows, by clearing column after column."""
    rows = [list(row) for row in rows]
    done = 0
    for c in range(len(rows[0]) if rows else 0):
        at = next((k for k in range(done, len(rows)) if rows[k][c] % prime), None)
        if at is None:
            continue
        rows[done], rows[at] = rows[at], rows[done]
        factor = pow(rows[done][c], -1, prime)
        rows[done] = [x * factor % prime for x in rows[done]]
        for k in range(len(rows)):
            if k != done and rows[k][c] % prime:
                f = rows[k][c]
                rows[k] = [(x - f * y) % prime for x, y in zip(rows[k], rows[done])]
        done += 1
    return done


def drawn_table(rng, prime, many, width, few=0.0):
    return tuple(tuple(0 if rng.random() < few else rng.randrange(prime) for _ in range(width)) for _ in range(many))


def drawn_square(rng, prime, n):
    """A drawn table that can be undone."""
    while True:
        table = drawn_table(rng, prime, n, n)
        if rank(prime, table) == n:
            return table


def row_sums(prime, rows, width):
    told = {(0,) * width}
    for row in rows:
        told = {tuple((a + k * b) % prime for a, b in zip(one, row)) for one in told for k in range(prime)}
    return told


def walk_room(plan, walk):
    """The room of a walk, from its definition."""
    points = naive.points(plan, walk)
    number = [points[:k].count(p) for k, p in enumerate(points)]
    units = tuple(points.count(p) for p in range(plan[0]))
    tables = []
    for a, (start, end) in enumerate(plan[1]):
        table = [[0] * units[end] for _ in range(units[start])]
        for k, x in enumerate(walk[1]):
            if x == a:
                table[number[k]][number[k + 1]] = 1
            if x == -1 - a:
                table[number[k + 1]][number[k]] = 1
        tables.append(tuple(map(tuple, table)))
    return (units, tuple(tables))


def round_room(plan, prime, row, poly):
    """The room of a round with a polynomial, from its definition."""
    n, d = len(row), len(poly)
    points = [naive.ends(plan, x)[0] for x in row]
    number = [[points[:k].count(points[k]) * d + j for j in range(d)] for k in range(n)]
    units = tuple(points.count(p) * d for p in range(plan[0]))
    tables = [[[0] * units[end] for _ in range(units[start])] for start, end in plan[1]]
    for k, x in enumerate(row[:-1]):
        for j in range(d):
            if x >= 0:
                tables[x][number[k][j]][number[k + 1][j]] = 1
            else:
                tables[-1 - x][number[k + 1][j]][number[k][j]] = 1
    once = [[int(i == j + 1) for i in range(d)] for j in range(d - 1)] + [[-f % prime for f in poly]]
    if row[-1] < 0:
        once = undone(prime, once)
    for i in range(d):
        for j in range(d):
            if row[-1] >= 0:
                tables[row[-1]][number[n - 1][i]][number[0][j]] = once[i][j]
            else:
                tables[-1 - row[-1]][number[0][i]][number[n - 1][j]] = once[i][j]
    return (units, tuple(tuple(map(tuple, table)) for table in tables))


def undone(prime, table):
    """The undone table, by clearing column after column of the table beside one."""
    n = len(table)
    rows = [list(row) + list(unit) for row, unit in zip(table, eye(n))]
    for c in range(n):
        at = next(k for k in range(c, n) if rows[k][c] % prime)
        rows[c], rows[at] = rows[at], rows[c]
        factor = pow(rows[c][c], -1, prime)
        rows[c] = [x * factor % prime for x in rows[c]]
        for k in range(n):
            if k != c:
                f = rows[k][c]
                rows[k] = [(x - f * y) % prime for x, y in zip(rows[k], rows[c])]
    return tuple(tuple(row[n:]) for row in rows)


def is_room(plan, prime, room):
    units, tables = room
    for a, b in plan[2]:
        if any(map(any, mul(prime, tables[a], tables[b], units[plan[1][b][1]]))):
            return False
    return True


def drawn_room(rng, plan, prime, most=3):
    """A drawn room: a sum of parts in drawn units, or tables drawn until all noughts are kept."""
    if rng.random() < 0.6:
        parts = drawn_parts(rng, plan, prime, 2 * most + 2, 3, letters=4)
        room = sum_of(plan, [part(plan, prime, told) for told in parts])
        return other_units(rng, plan, prime, room)[0] if max(room[0]) <= most + 2 else room
    while True:
        units = tuple(rng.randint(0, most) for _ in range(plan[0]))
        tables = tuple(drawn_table(rng, prime, units[a], units[b], rng.choice((0.5, 0.8, 1.0))) for a, b in plan[1])
        if is_room(plan, prime, (units, tables)):
            return (units, tables)


def drawn_parts(rng, plan, prime, most=16, many=6, degrees=(1, 2), exponents=(1, 2, 3), letters=7):
    """Drawn parts with at most so many units: strings, and bands with powers of irreducible polynomials."""
    from stringrooms.fields import irreducibles, poly_power
    parts, units = [], 0
    for _ in range(rng.randint(0, many)):
        row = naive.drawn_round(rng, plan, 6) if rng.random() < 0.5 else None
        if row:
            factor = rng.choice([f for d in degrees for f in irreducibles(prime, d)])
            part = ("band", row, poly_power(prime, factor, rng.choice(exponents)))
            size = len(row) * len(part[2])
        else:
            part = ("string", naive.drawn_walk(rng, plan, letters))
            size = len(part[1][1]) + 1
        if units + size <= most:
            parts.append(part)
            units += size
    return tuple(parts)


def part(plan, prime, told):
    return walk_room(plan, told[1]) if told[0] == "string" else round_room(plan, prime, told[1], told[2])


def sum_of(plan, rooms):
    units = tuple(sum(room[0][p] for room in rooms) for p in range(plan[0]))
    tables = []
    for a, (start, end) in enumerate(plan[1]):
        table, ahead = [], 0
        for room in rooms:
            for row in room[1][a]:
                table.append((0,) * ahead + tuple(row) + (0,) * (units[end] - ahead - room[0][end]))
            ahead += room[0][end]
        tables.append(tuple(table))
    return (units, tuple(tables))


def other_units(rng, plan, prime, room):
    """The room with drawn other units, and the tables that tell them."""
    told = tuple(drawn_square(rng, prime, n) for n in room[0])
    tables = tuple(mul(prime, mul(prime, told[a], room[1][k], room[0][b]), undone(prime, told[b]), room[0][b])
                   for k, (a, b) in enumerate(plan[1]))
    return (room[0], tables), told


def hom_number(plan, prime, room, other):
    """How many maps there are, by unknowns and equations."""
    places = [(p, i, j) for p in range(plan[0]) for i in range(room[0][p]) for j in range(other[0][p])]
    index = {place: k for k, place in enumerate(places)}
    rows = []
    for a, (p, q) in enumerate(plan[1]):
        for i in range(room[0][p]):
            for j in range(other[0][q]):
                row = [0] * len(places)
                for k in range(room[0][q]):
                    row[index[q, k, j]] += room[1][a][i][k]
                for k in range(other[0][p]):
                    row[index[p, i, k]] -= other[1][a][k][j]
                rows.append(row)
    return len(places) - rank(prime, rows)


def is_hom(plan, prime, room, other, told):
    return all(mul(prime, room[1][a], told[q], other[0][q]) == mul(prime, told[p], other[1][a], other[0][q])
               for a, (p, q) in enumerate(plan[1]))


def all_rows(prime, width):
    return itertools.product(range(prime), repeat=width)
