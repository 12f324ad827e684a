"""Maps from room to room by tables: bases, kernels and images, alike rooms, parts split off."""

from stringrooms.apart import check_apart, parts_of_room
from stringrooms.errors import NoWay, TooGreat, Unlike
from stringrooms.fields import kernel, poly_power, power_of, reduced
from stringrooms.helping import is_table
from stringrooms.plans import ends_of
from stringrooms.rooms import part_room, sub_room
from stringrooms.tables import flipped, led_row, one, poly_at, poly_table, times, undo

MOST_NUMBERS = 150


def map_basis(plan, prime, room, other):
    """Return the reduced basis of all maps; TooGreat for more than 150 numbers in a map."""
    if _number_many(room, other) > MOST_NUMBERS:
        raise TooGreat(MOST_NUMBERS)
    return _every_map(plan, prime, room, other)


def map_size(plan, prime, room, other):
    """Return how many maps the basis has; TooGreat likewise."""
    return len(map_basis(plan, prime, room, other))


def _number_many(room, other):
    return sum(many * wide for many, wide in zip(room[0], other[0]))


def _every_map(plan, prime, room, other):
    """Return the reduced basis of all maps, however many numbers they have."""
    many = _number_many(room, other)
    equations = []
    for arrow in range(len(plan[1])):
        equations.extend(_equations(plan, room, other, arrow))
    rows = kernel(flipped(equations, many), prime)
    return tuple(_map_of_row(room, other, row) for row in rows)


def _equations(plan, room, other, arrow):
    """Return for each entry of an arrow's two products with a map a row: what it counts each number of the map."""
    start, end = plan[1][arrow]
    table, goal = room[1][arrow], other[1][arrow]
    starts = _first_numbers(room, other)
    told = []
    for line in range(room[0][start]):
        for column in range(other[0][end]):
            row = [0] * _number_many(room, other)
            for place in range(room[0][end]):
                row[starts[end] + place * other[0][end] + column] += table[line][place]
            for place in range(other[0][start]):
                row[starts[start] + line * other[0][start] + place] -= goal[place][column]
            if any(row):
                told.append(row)
    return told


def _first_numbers(room, other):
    """Return for each point at which place of a map written as one row its table begins."""
    starts = [0]
    for many, wide in zip(room[0], other[0]):
        starts.append(starts[-1] + many * wide)
    return starts


def _map_of_row(room, other, row):
    """Return the map that is written as one row."""
    starts = _first_numbers(room, other)
    told = []
    for point, (many, wide) in enumerate(zip(room[0], other[0])):
        first = starts[point]
        told.append(tuple(row[first + line * wide:first + line * wide + wide] for line in range(many)))
    return tuple(told)


def is_map(plan, prime, room, other, told):
    """Tell whether a value is a map from a room to another one."""
    if not isinstance(told, tuple) or len(told) != plan[0]:
        return False
    for point in range(plan[0]):
        if not is_table(told[point], room[0][point], other[0][point], prime):
            return False
    for arrow, (start, end) in enumerate(plan[1]):
        width = other[0][end]
        if times(room[1][arrow], told[end], prime, width) != times(told[start], other[1][arrow], prime, width):
            return False
    return True


def map_kernel(plan, prime, room, other, told):
    """Return for each point the basis of all sums of units that a map leads to nothing."""
    return tuple(kernel(table, prime) for table in told)


def map_image(plan, prime, room, other, told):
    """Return for each point the basis of all that a map leads units to."""
    return tuple(reduced(table, prime) for table in told)


def after(plan, prime, room, other, third, told, next_told):
    """Return the map from room to third that is told, and then next_told from other to third."""
    return tuple(times(first, second, prime, width) for first, second, width in zip(told, next_told, third[0]))


def is_alike_map(plan, prime, room, other, told):
    """Tell whether a value is a map whose tables are all square and can be undone."""
    if room[0] != other[0] or not is_map(plan, prime, room, other, told):
        return False
    return _undone_map(told, prime) is not None


def _undone_map(told, prime):
    """Return the map with all tables undone, or None if one can't be."""
    try:
        return tuple([undo(table, prime) for table in told])
    except NoWay:
        return None


def alike_map(plan, prime, room, other):
    """Return any map from a room to another one whose tables can be undone; raise Unlike if there is none."""
    check_apart((room, other))
    parts = parts_of_room(plan, prime, room)
    if room[0] != other[0] or parts != parts_of_room(plan, prime, other):
        raise Unlike()
    several = _part_row(parts)
    back = _undone_map(_stacked(plan, prime, room, several), prime)
    return after(plan, prime, room, room, other, back, _stacked(plan, prime, other, several))


def split(plan, prime, room, part):
    """Return any maps (IN, OUT) that split a part off a room; raise NoWay if it is none of its parts.

    The maps of a part to itself that can't be undone lead the first unit of
    its first place to nothing, seen there as in _seen. So a map into the room
    and a map out of it split the part off exactly if they can be seen so.
    """
    goal = part_room(plan, prime, part)
    point, seen = _seen(plan, prime, part)
    into = _unlike_ones([(told[point][0], told) for told in _every_map(plan, prime, goal, room)], prime)
    out = []
    for told in _every_map(plan, prime, room, goal):
        out.append((times(told[point], seen, prime, len(seen[0])), told))
    out = _unlike_ones([(_one_row(table), table, told) for table, told in out], prime)
    for row, first in into:
        for _, table, second in out:
            if any(led_row(row, table, prime, len(seen[0]))):
                back = _undone_map(after(plan, prime, goal, room, goal, first, second), prime)
                return (first, after(plan, prime, room, goal, goal, second, back))
    raise NoWay()


def _one_row(table):
    return tuple(entry for row in table for entry in row)


def _seen(plan, prime, part):
    """Return the point of a part's first place, and a table to see by.

    The units of the first place are the first ones at its point. The table
    leads a sum of units of the part there to zeros exactly if what it has of
    these is a multiple of the irreducible polynomial.
    """
    if part[0] == "string":
        point, table = part[1][0], ((1,),)
    else:
        point = ends_of(plan, part[1][0])[0]
        factor, many = power_of(prime, part[2])
        table = poly_at(poly_table(prime, part[2]), prime, poly_power(prime, factor, many - 1))
    others = part_room(plan, prime, part)[0][point] - len(table)
    return point, table + ((0,) * len(table),) * others


def _unlike_ones(several, prime):
    """Return of tuples that begin with a row those whose row is no sum of rows ahead."""
    kept = []
    rows = ()
    for entry in several:
        base = reduced(rows + (entry[0],), prime)
        if len(base) > len(rows):
            rows = base
            kept.append(entry)
    return kept


def apart_map(plan, prime, room):
    """Return any pair (PARTS, MAP): all parts of a room, and a map from their sum to it that can be undone."""
    several = _part_row(parts_of_room(plan, prime, room))
    return (several, _stacked(plan, prime, room, several))


def _part_row(parts):
    """Return the tuple of all parts, each as often as it comes."""
    several = []
    for walk, many in parts[0]:
        several.extend([("string", walk)] * many)
    for letters, poly, many in parts[1]:
        several.extend([("band", letters, poly)] * many)
    return tuple(several)


def _stacked(plan, prime, room, several):
    """Return a map, which can be undone, from the sum of all parts of a room, in this sequence, to the room."""
    told = [()] * plan[0]
    within = [one(many) for many in room[0]]
    left = room
    for part in several:
        into, out = split(plan, prime, left, part)
        for point, many in enumerate(room[0]):
            told[point] = told[point] + times(into[point], within[point], prime, many)
        # What the map out leads to nothing is a room that has all other parts.
        rest = map_kernel(plan, prime, left, part_room(plan, prime, part), out)
        within = [times(rows, lines, prime, many) for rows, lines, many in zip(rest, within, room[0])]
        left = sub_room(plan, prime, left, rest)
    return tuple(told)
