"""All rooms with given units, and how many changes of units, and of each room to itself, there are."""

from stringrooms.errors import TooGreat
from stringrooms.fields import irreducibles, poly_power, power_of
from stringrooms.helping import divisors_of, whole_power
from stringrooms.pieces import part_number
from stringrooms.sizes import bands_within, count_rooms, walks_within
from stringrooms.walks import turned

MOST_LISTED = 500


def room_list(plan, prime, units):
    """Return all rooms with just these units, each as parts_of_room tells it, ascending; TooGreat for more than 500."""
    if count_rooms(plan, prime, units) > MOST_LISTED:
        raise TooGreat(MOST_LISTED)
    items = _items(plan, prime, units)
    told = []
    waiting = [((), units, 0)]
    while waiting:
        chosen, left, first = waiting.pop()
        told.append(_parts_with(chosen, left))
        for at in range(first, len(items)):
            item, sizes = items[at]
            many, less = 0, left
            while all([size <= unit for size, unit in zip(sizes, less)]):
                less = tuple(unit - size for size, unit in zip(sizes, less))
                many += 1
                waiting.append((chosen + ((item, many),), less, at + 1))
    return tuple(sorted(told))


def _items(plan, prime, units):
    """Return the parts, but for strings of one place, that rooms with these units can have, each with its units."""
    items = []
    for walk, sizes in walks_within(plan, units):
        if walk[1] and walk <= turned(plan, walk):
            items.append(((walk,), sizes))
    for band, sizes in bands_within(plan, units):
        degree, total = 1, sizes
        while all([size <= unit for size, unit in zip(total, units)]):
            items.extend([((band, poly), total) for poly in _powers(prime, degree)])
            total = tuple(one + more for one, more in zip(total, sizes))
            degree += 1
    return items


def _powers(prime, degree):
    """Return all powers, of a degree, of irreducible polynomials other than x.

    Where these are too many to be listed, so are the rooms.
    """
    return [poly_power(prime, factor, degree // part) for part in divisors_of(degree)
            for factor in irreducibles(prime, part)]


def _parts_with(chosen, left):
    """Return the room of the chosen parts, what is left taken by strings of one place, as parts_of_room tells it."""
    strings = [item + (many,) for item, many in chosen if len(item) == 1]
    strings.extend([((point, ()), many) for point, many in enumerate(left) if many > 0])
    bands = [item + (many,) for item, many in chosen if len(item) == 2]
    return (tuple(sorted(strings)), tuple(sorted(bands)))


def changes(prime, units):
    """Return how many changes of units there are."""
    told = 1
    for many in units:
        told = told * _undoable(prime, many)
    return told


def _undoable(number, many):
    """Return how many tables of so many rows, over so many numbers, can be undone."""
    told, power = 1, 1
    whole = whole_power(number, many)
    for _ in range(many):
        told = told * (whole - power)
        power = power * number
    return told


def own_changes(plan, prime, parts):
    """Return how many maps of the room of these parts to itself can be undone."""
    return _own_changes(plan, prime, parts, {})


def _own_changes(plan, prime, parts, known):
    """Return what own_changes does; known keeps the numbers of maps from part to part."""
    several = [(("string", string), 1, many) for string, many in parts[0]]
    several.extend([(("band", band, poly), len(power_of(prime, poly)[0]), many) for band, poly, many in parts[1]])
    told, maps = 1, 0
    for part, degree, many in several:
        maps -= many * many * degree
        told = told * _undoable(whole_power(prime, degree), many)
        for other, _, times in several:
            if (part, other) not in known:
                known[part, other] = part_number(plan, prime, part, other)
            maps += many * times * known[part, other]
    return told * whole_power(prime, maps)


def room_total(plan, prime, units):
    """Return how many rooms, alike or not, have just these units; TooGreat as room_list."""
    known = {}
    every = changes(prime, units)
    return sum([every // _own_changes(plan, prime, parts, known) for parts in room_list(plan, prime, units)])
