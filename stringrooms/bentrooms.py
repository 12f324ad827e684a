"""Bent sums of rooms by tables, and bends of parts."""

from stringrooms.errors import NotMap, TooGreat
from stringrooms.fields import kernel, put_row, rank
from stringrooms.helping import is_table
from stringrooms.homs import MOST_NUMBERS
from stringrooms.layers import cover_points, round_tops
from stringrooms.pieces import part_number
from stringrooms.plans import ends_of
from stringrooms.rests import rest_parts, round_rest, tail_of
from stringrooms.tables import flipped, times
from stringrooms.walks import sizes_of


def bent_number(plan, prime, room, other):
    """Return how many bends there are with room above and other inside; TooGreat for more than 150 numbers in one."""
    many = _starts(plan, room, other)[-1]
    return many - rank(_equations(plan, prime, room, other), prime) - rank(_changes(plan, prime, room, other), prime)


def bent_basis(plan, prime, room, other):
    """Return a basis of the bends up to changed units; TooGreat likewise."""
    starts = _starts(plan, room, other)
    kept = {}
    for row in _changes(plan, prime, room, other):
        put_row(kept, row, prime)
    found = []
    for row in kernel(flipped(_equations(plan, prime, room, other), starts[-1]), prime):
        if put_row(kept, row, prime):
            found.append(_bend_of_row(plan, room, other, starts, row))
    return tuple(found)


def _starts(plan, room, other):
    """Return for each arrow at which place of a bend written as one row its table begins, and the row's length."""
    starts = [0]
    for start, end in plan[1]:
        starts.append(starts[-1] + room[0][start] * other[0][end])
    if starts[-1] > MOST_NUMBERS:
        raise TooGreat(MOST_NUMBERS)
    return starts


def _equations(plan, prime, room, other):
    """Return for each entry of what each nought makes a row: what it counts each number of a bend."""
    starts = _starts(plan, room, other)
    told = []
    for first, second in plan[2]:
        middle, end = plan[1][second]
        wide, goal = other[0][end], other[0][middle]
        for line, entries in enumerate(room[1][first]):
            for column in range(wide):
                row = [0] * starts[-1]
                for place, entry in enumerate(entries):
                    row[starts[second] + place * wide + column] += entry
                for place in range(goal):
                    row[starts[first] + line * goal + place] += other[1][second][place][column]
                told.append([entry % prime for entry in row])
    return told


def _changes(plan, prime, room, other):
    """Return for each number that a change of units may have the bend that it makes, as one row."""
    starts = _starts(plan, room, other)
    told = []
    for point in range(plan[0]):
        for line in range(room[0][point]):
            for column in range(other[0][point]):
                row = [0] * starts[-1]
                for arrow, (start, end) in enumerate(plan[1]):
                    wide = other[0][end]
                    if end == point:
                        for place, entries in enumerate(room[1][arrow]):
                            row[starts[arrow] + place * wide + column] += entries[line]
                    if start == point:
                        for place, entry in enumerate(other[1][arrow][column]):
                            row[starts[arrow] + line * wide + place] -= entry
                told.append([entry % prime for entry in row])
    return told


def _bend_of_row(plan, room, other, starts, row):
    """Return the bend that is written as one row."""
    told = []
    for arrow, (start, end) in enumerate(plan[1]):
        first, wide = starts[arrow], other[0][end]
        told.append(tuple(row[first + line * wide:first + line * wide + wide] for line in range(room[0][start])))
    return tuple(told)


def bent_room(plan, prime, room, other, bend):
    """Return the bent sum that a bend tells; raise NotMap for any other value."""
    _check_bend(plan, prime, room, other, bend)
    tables = []
    for arrow, (start, end) in enumerate(plan[1]):
        inside = tuple(row + (0,) * room[0][end] for row in other[1][arrow])
        above = tuple(bend[arrow][line] + room[1][arrow][line] for line in range(room[0][start]))
        tables.append(inside + above)
    return (tuple(one + more for one, more in zip(other[0], room[0])), tuple(tables))


def _check_bend(plan, prime, room, other, bend):
    if not plan[1] and bend != ():
        raise NotMap(-1)
    if not isinstance(bend, tuple) or len(bend) != len(plan[1]):
        raise NotMap(0)
    for arrow, (start, end) in enumerate(plan[1]):
        if not is_table(bend[arrow], room[0][start], other[0][end], prime):
            raise NotMap(arrow)
    for first, second in plan[2]:
        wide = other[0][plan[1][second][1]]
        one = times(room[1][first], bend[second], prime, wide)
        more = times(bend[first], other[1][second], prime, wide)
        for row, line in zip(one, more):
            if any((entry + number) % prime for entry, number in zip(row, line)):
                raise NotMap(-1)


def band_bends(plan, prime, part, other):
    """Return how many bends there are with one part above and another inside; NotPoly for a POLY that is no power."""
    told = part_number(plan, prime, part, other)
    sizes = _units_of(plan, other)
    if part[0] == "string":
        points, arrows = rest_parts(plan, part[1])
        tails = [("string", tail_of(plan, arrow)) for arrow in arrows]
        covers, degree = cover_points(plan, part[1]), 1
    else:
        points, tails = round_rest(plan, part[1]), []
        covers = [ends_of(plan, part[1][place])[0] for place in round_tops(plan, part[1])]
        degree = len(part[2])
    told += degree * (sum(sizes[point] for point in points) - sum(sizes[point] for point in covers))
    return told + sum(part_number(plan, prime, tail, other) for tail in tails)


def _units_of(plan, part):
    """Return for each point how many units the room of a part has."""
    if part[0] == "string":
        return sizes_of(plan, part[1])
    sizes = [0] * plan[0]
    for letter in part[1]:
        sizes[ends_of(plan, letter)[0]] += len(part[2])
    return sizes
