"""Rooms: units and tables; rooms of walks and rounds, sums, changed units, sub-rooms and what is left."""

from stringrooms.errors import NotMap, NotRoom, NoWay, TooGreat
from stringrooms.fields import kernel, leading_places, reduced
from stringrooms.helping import is_integer, is_table
from stringrooms.plans import ends_of
from stringrooms.tables import flipped, free_places, one, poly_table, rest_row, span, times, undo
from stringrooms.walks import points_of, sizes_of

MOST_UNITS = 40


def check_room(plan, prime, value):
    """Return the value if it is a room; raise NotRoom with the first rule that is broken."""
    size, arrows, noughts = plan
    if not isinstance(value, tuple) or len(value) != 2 or not all(isinstance(half, tuple) for half in value):
        raise NotRoom("form")
    units, tables = value
    if len(units) != size or len(tables) != len(arrows):
        raise NotRoom("form")
    if not all(is_integer(many) and many >= 0 for many in units) or sum(units) > MOST_UNITS:
        raise NotRoom("units")
    for table, (start, end) in zip(tables, arrows):
        if not is_table(table, units[start], units[end], prime):
            raise NotRoom("tables")
    for first, second in noughts:
        product = times(tables[first], tables[second], prime, units[arrows[second][1]])
        if any(any(row) for row in product):
            raise NotRoom("noughts")
    return value


def empty_room(plan):
    """Return the room without units."""
    return ((0,) * plan[0], tuple(() for _ in plan[1]))


def place_units(plan, walk):
    """Return for each place of a walk the number of its unit at its point."""
    return _numbered(points_of(plan, walk))


def _numbered(points):
    """Return for each point of a row how many times it stands ahead."""
    many = {}
    told = []
    for point in points:
        told.append(many.get(point, 0))
        many[point] = told[-1] + 1
    return tuple(told)


def string_room(plan, walk):
    """Return the room of a walk; TooGreat for more than 40 units."""
    if len(walk[1]) >= MOST_UNITS:
        raise TooGreat(MOST_UNITS)
    units = sizes_of(plan, walk)
    tables = _zero_tables(plan, units)
    numbers = place_units(plan, walk)
    for place, letter in enumerate(walk[1]):
        _lead(tables, letter, numbers[place], numbers[place + 1], ((1,),))
    return (units, _told_tables(tables))


def _zero_tables(plan, units):
    """Return for each arrow a list of lists of zeros, to be filled."""
    return [[[0] * units[end] for _ in range(units[start])] for start, end in plan[1]]


def _lead(tables, letter, first, second, block):
    """Let a letter lead units at its beginning, from first on, to those at its end, from second on, by a block.

    A letter against leads backward: its arrow has the block from second to first.
    """
    if letter < 0:
        letter, first, second = -1 - letter, second, first
    for line, row in enumerate(block):
        for column, entry in enumerate(row):
            tables[letter][first + line][second + column] = entry


def _told_tables(tables):
    return tuple(tuple(tuple(row) for row in table) for table in tables)


def band_room(plan, prime, letters, poly):
    """Return the room of a round with a polynomial; TooGreat for more than 40 units."""
    degree = len(poly)
    if len(letters) * degree > MOST_UNITS:
        raise TooGreat(MOST_UNITS)
    points = [ends_of(plan, letter)[0] for letter in letters]
    units = tuple(degree * points.count(point) for point in range(plan[0]))
    numbers = [degree * number for number in _numbered(points)]
    tables = _zero_tables(plan, units)
    for place, letter in enumerate(letters[:-1]):
        _lead(tables, letter, numbers[place], numbers[place + 1], one(degree))
    closing = poly_table(prime, poly)
    if letters[-1] < 0:
        closing = undo(closing, prime)
    _lead(tables, letters[-1], numbers[-1], numbers[0], closing)
    return (units, _told_tables(tables))


def part_room(plan, prime, part):
    """Return the room of a part, ("string", WALK) or ("band", ROUND, POLY)."""
    if part[0] == "string":
        return string_room(plan, part[1])
    return band_room(plan, prime, part[1], part[2])


def sum_room(plan, several):
    """Return the sum of rooms; TooGreat for more than 40 units."""
    if sum(sum(room[0]) for room in several) > MOST_UNITS:
        raise TooGreat(MOST_UNITS)
    units = tuple(sum(room[0][point] for room in several) for point in range(plan[0]))
    tables = _zero_tables(plan, units)
    done = [0] * plan[0]
    for added, parts in several:
        for arrow, (start, end) in enumerate(plan[1]):
            _lead(tables, arrow, done[start], done[end], parts[arrow])
        done = [old + new for old, new in zip(done, added)]
    return (units, _told_tables(tables))


def parts_room(plan, prime, several):
    """Return the sum of the rooms of parts; TooGreat for more than 40 units."""
    return sum_room(plan, [part_room(plan, prime, part) for part in several])


def way_table(plan, prime, room, point, arrows):
    """Return the product of the tables along a way that begins at a point."""
    told = one(room[0][point])
    for arrow in arrows:
        told = times(told, room[1][arrow], prime, room[0][plan[1][arrow][1]])
    return told


def changed(plan, prime, room, told):
    """Return the room with other units, told for each point as sums of the old ones; raise NotMap for no such."""
    units, tables = room
    if not isinstance(told, tuple) or len(told) != plan[0]:
        raise NotMap(-1)
    back = []
    for point in range(plan[0]):
        if not is_table(told[point], units[point], units[point], prime):
            raise NotMap(point)
        try:
            back.append(undo(told[point], prime))
        except NoWay:
            raise NotMap(point) from None
    new = []
    for table, (start, end) in zip(tables, plan[1]):
        led_there = times(told[start], table, prime, units[end])
        new.append(times(led_there, back[end], prime, units[end]))
    return (units, tuple(new))


def dual_room(plan, prime, room):
    """Return the room of the turned plan with the same units and each table flipped."""
    units, tables = room
    return (units, tuple(flipped(table, units[end]) for table, (_, end) in zip(tables, plan[1])))


def led(plan, prime, room, told):
    """Return for each point the basis of the least lot of sums that has all these rows and is led into itself."""
    units, tables = room
    bases = [reduced(rows, prime) for rows in told]
    more = True
    while more:
        more = False
        for table, (start, end) in zip(tables, plan[1]):
            base = span(bases[end], times(bases[start], table, prime, units[end]), prime)
            if base != bases[end]:
                bases[end] = base
                more = True
    return tuple(bases)


def is_closed(plan, prime, room, told):
    """Tell whether each arrow leads each row of told to a sum of rows of told."""
    bases = [reduced(rows, prime) for rows in told]
    return all(_leads_within(plan, prime, room, bases, arrow) for arrow in range(len(plan[1])))


def _leads_within(plan, prime, room, bases, arrow):
    """Tell whether an arrow leads all rows of bases at its beginning to sums of those at its end."""
    start, end = plan[1][arrow]
    images = times(bases[start], room[1][arrow], prime, room[0][end])
    return not any(any(rest_row(image, bases[end], prime)) for image in images)


def _check_closed(plan, prime, room, told):
    for arrow in range(len(plan[1])):
        if not _leads_within(plan, prime, room, told, arrow):
            raise NotMap(arrow)


def sub_room(plan, prime, room, told):
    """Return the room of the rows of told, reduced bases; raise NotMap for an arrow that leads out of them."""
    _check_closed(plan, prime, room, told)
    tables = []
    for arrow, (start, end) in enumerate(plan[1]):
        images = times(told[start], room[1][arrow], prime, room[0][end])
        leading = leading_places(told[end])
        tables.append(tuple(tuple(image[place] for place in leading) for image in images))
    return (tuple(len(rows) for rows in told), tuple(tables))


def left_room(plan, prime, room, told):
    """Return the room that is left when the rows of told, reduced bases, are made nothing; NotMap likewise."""
    _check_closed(plan, prime, room, told)
    units, tables = room
    free = [free_places(rows, prime, many) for rows, many in zip(told, units)]
    new = []
    for table, (start, end) in zip(tables, plan[1]):
        rests = [rest_row(table[place], told[end], prime) for place in free[start]]
        new.append(tuple(tuple(rest[place] for place in free[end]) for rest in rests))
    return (tuple(len(places) for places in free), tuple(new))


def common(plan, prime, room):
    """Return for each point the basis of all sums of units that each arrow leads to nothing."""
    units, tables = room
    told = []
    for point in range(plan[0]):
        rows = [()] * units[point]
        for table, (start, _) in zip(tables, plan[1]):
            if start == point:
                rows = [row + line for row, line in zip(rows, table)]
        told.append(kernel(rows, prime))
    return tuple(told)


def reached(plan, prime, room):
    """Return for each point the basis of all sums of what arrows lead there."""
    told = []
    for point in range(plan[0]):
        rows = [row for table, (_, end) in zip(room[1], plan[1]) if end == point for row in table]
        told.append(reduced(rows, prime))
    return tuple(told)
