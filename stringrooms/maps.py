"""Maps between walks by pieces: their tables, products and sums."""

from stringrooms.errors import NotMap
from stringrooms.helping import is_integer, is_table
from stringrooms.pieces import map_pairs, piece_of
from stringrooms.rooms import place_units
from stringrooms.walks import points_of, sizes_of, string_of


def _is_pair(plan, walk, other, value):
    """Tell whether a value is a pair of a walk and another one."""
    if not isinstance(value, tuple) or not all(is_integer(entry) for entry in value):
        return False
    return value in map_pairs(plan, walk, other)


def _led_places(pair):
    """Return the pairs of places of which the first one's unit is led to the second one's."""
    first, last, start, end, way = pair
    if way == 1:
        return [(first + step, start + step) for step in range(last - first + 1)]
    return [(first + step, end - step) for step in range(last - first + 1)]


def pair_map(plan, walk, other, pair):
    """Return the map of a pair; raise NotMap for any other value."""
    if not _is_pair(plan, walk, other, pair):
        raise NotMap(-1)
    return _summed(plan, walk, other, [(pair, 1)])


def _summed(plan, walk, other, told):
    """Return the map that is the sum of pairs, each with a number."""
    sizes, widths = sizes_of(plan, walk), sizes_of(plan, other)
    units, goals = place_units(plan, walk), place_units(plan, other)
    points = points_of(plan, walk)
    tables = [[[0] * wide for _ in range(many)] for many, wide in zip(sizes, widths)]
    for pair, number in told:
        for place, goal in _led_places(pair):
            tables[points[place]][units[place]][goals[goal]] += number
    return tuple(tuple(tuple(row) for row in table) for table in tables)


def told_by(plan, prime, walk, other, rows):
    """Return a map as the sum of pairs: the tuple of (PAIR, NUMBER), ascending; raise NotMap for what is none."""
    if not isinstance(rows, tuple) or len(rows) != plan[0]:
        raise NotMap(0)
    sizes, widths = sizes_of(plan, walk), sizes_of(plan, other)
    for point in range(plan[0]):
        if not is_table(rows[point], sizes[point], widths[point], prime):
            raise NotMap(point)
    points = points_of(plan, walk)
    units, goals = place_units(plan, walk), place_units(plan, other)
    told = []
    for pair in map_pairs(plan, walk, other):
        # No two pairs lead one place to one place, so each number stands as it is in the tables.
        place, goal = _led_places(pair)[0]
        number = rows[points[place]][units[place]][goals[goal]]
        if number > 0:
            told.append((pair, number))
    if _summed(plan, walk, other, told) != rows:
        raise NotMap(-1)
    return tuple(told)


def behind(plan, walk, other, third, pair, next_pair):
    """Return the pair that leads as a pair and then as the next one, or None; raise NotMap for what is no pair."""
    if not _is_pair(plan, walk, other, pair):
        raise NotMap(-1)
    if not _is_pair(plan, other, third, next_pair):
        raise NotMap(-2)
    return _product(pair, next_pair)


def _product(pair, next_pair):
    """Return the pair of two pairs one behind the other, or None."""
    low, high = max(pair[2], next_pair[0]), min(pair[3], next_pair[1])
    if low > high:
        return None
    if pair[4] == 1:
        first = pair[0] + low - pair[2]
    else:
        first = pair[0] + pair[3] - high
    if next_pair[4] == 1:
        start = next_pair[2] + low - next_pair[0]
    else:
        start = next_pair[2] + next_pair[1] - high
    way = 1 if low == high else pair[4] * next_pair[4]
    return (first, first + high - low, start, start + high - low, way)


def through(plan, walk, third, other):
    """Return all pairs from walk to other that are a pair to third and then one to other, ascending."""
    found = {}
    nexts = map_pairs(plan, third, other)
    for pair in map_pairs(plan, walk, third):
        for next_pair in nexts:
            found[_product(pair, next_pair)] = True
    return tuple(sorted(pair for pair in found if pair is not None))


def own_pairs(plan, walk):
    """Return all pairs of a walk to itself but the one of the whole, ascending."""
    many = len(walk[1])
    return tuple(pair for pair in map_pairs(plan, walk, walk) if pair != (0, many, 0, many, 1))


def is_brick(plan, walk):
    """Tell whether a walk has no own pairs."""
    return not own_pairs(plan, walk)


def vanishing(plan, walk):
    """Return the least number of own pairs that, done one behind another, are always nothing."""
    pairs = own_pairs(plan, walk)
    behind_each = {pair: [_product(pair, other) for other in pairs] for pair in pairs}
    row = list(pairs)
    number = 1
    while row:
        found = {}
        for pair in row:
            found.update({other: True for other in behind_each[pair] if other is not None})
        row = list(found)
        number += 1
    return number


def parts_of(plan, walk, other, pair):
    """Return the strings of what a pair leads to nothing, of its piece, and of what is left of the other walk."""
    first, last, start, end, _ = pair
    return (_strings_beside(plan, walk, first, last), (string_of(plan, piece_of(plan, walk, first, last)),),
            _strings_beside(plan, other, start, end))


def _strings_beside(plan, walk, first, last):
    """Return the strings of a walk ahead of and behind a piece, ascending."""
    found = []
    if first > 0:
        found.append(string_of(plan, piece_of(plan, walk, 0, first - 1)))
    if last < len(walk[1]):
        found.append(string_of(plan, piece_of(plan, walk, last + 1, len(walk[1]))))
    return tuple(sorted(found))


def is_onto(plan, walk, other, pair):
    """Tell whether the second piece of a pair is all of the other walk."""
    return pair[2] == 0 and pair[3] == len(other[1])


def is_one_to_one(plan, walk, other, pair):
    """Tell whether the first piece of a pair is all of the walk."""
    return pair[0] == 0 and pair[1] == len(walk[1])
