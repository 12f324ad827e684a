"""Numbers of maps from chain to chain."""

from stringrooms.chains import chain_points, chain_sizes, degrees
from stringrooms.errors import TooGreat
from stringrooms.fields import undone_number
from stringrooms.ways import ways_between
from stringrooms.waytables import way_table

MOST_MAPS = 400

# Below, a plain map is a triple: a place of chain, a place of other, and the
# row of the arrows of its way.


def chain_number(plan, prime, chain, other, shift):
    """Return how many maps of a shift lead on to nothing, less those led on to; TooGreat for more than 400 maps."""
    ways = way_table(plan)
    pairs = [_place_pairs(plan, chain, other, near) for near in (shift - 1, shift, shift + 1)]
    if any([sum(ways[second][first] for _, _, first, second in row) > MOST_MAPS for row in pairs]):
        raise TooGreat(MOST_MAPS)
    coming, maps = _plain_maps(plan, pairs[0]), _plain_maps(plan, pairs[1])
    sign = 1 if shift % 2 == 0 else -1
    return len(maps) - _sparse_rank(_led_on(plan, chain, other, maps, -sign), prime) - _sparse_rank(
        _led_on(plan, chain, other, coming, sign), prime)


def chain_form(plan, chain, other):
    """Return the sum over places of both of signed numbers of ways from the second one's point to the first one's."""
    table = way_table(plan)
    sizes, others = chain_sizes(plan, chain), chain_sizes(plan, other)
    return sum(size * table[there][point] * goal
               for point, size in enumerate(sizes) for there, goal in enumerate(others))


def _place_pairs(plan, chain, other, shift):
    """Return the places of chain and of other whose degrees differ by a shift, each pair with its points."""
    goals = {}
    for place, (degree, point) in enumerate(zip(degrees(other), chain_points(plan, other))):
        goals.setdefault(degree, []).append((place, point))
    return [(place, goal, point, there)
            for place, (degree, point) in enumerate(zip(degrees(chain), chain_points(plan, chain)))
            for goal, there in goals.get(degree - shift, [])]


def _plain_maps(plan, pairs):
    """Return the plain maps of some pairs of places."""
    known = {}
    found = []
    for place, goal, point, there in pairs:
        if (there, point) not in known:
            known[there, point] = ways_between(plan, there, point)
        found.extend([(place, goal, row) for _, row in known[there, point]])
    return found


def _leads(chain):
    """Return for each place of a chain the list of the places to which it leads, each with the way of the step."""
    told = [[] for _ in range(len(chain[1]) + 1)]
    for place, (turn, way) in enumerate(chain[1]):
        if turn == 1:
            told[place + 1].append((place, way))
        else:
            told[place].append((place + 1, way))
    return told


def _led_by(chain):
    """Return for each place of a chain the list of the places that lead to it, each with the way of the step."""
    told = [[] for _ in range(len(chain[1]) + 1)]
    for place, row in enumerate(_leads(chain)):
        for goal, way in row:
            told[goal].append((place, way))
    return told


def _led_on(plan, chain, other, maps, sign):
    """Return a list: for each plain map the dict of the plain maps, with signs, whose sum it leads on to."""
    coming, leading = _led_by(chain), _leads(other)
    told = []
    for place, goal, row in maps:
        line = {}
        for there, way in leading[goal]:
            if not row or (way[-1], row[0]) not in plan[2]:
                line[place, there, way + row] = 1
        for there, way in coming[place]:
            if not row or (row[-1], way[0]) not in plan[2]:
                line[there, goal, row + way] = sign
        told.append(line)
    return told


def _sparse_rank(rows, prime):
    """Return the rank of rows, each a dict of the entries other than 0.

    Each plain map comes from two others at most, so the rows stay short.
    """
    kept = {}
    for row in rows:
        rest = row
        while rest:
            place = min(list(rest))
            if place not in kept:
                factor = undone_number(prime, rest[place])
                kept[place] = {at: entry * factor % prime for at, entry in rest.items()}
                break
            number = rest[place]
            told = {at: rest[at] for at in rest}
            for at, entry in kept[place].items():
                told[at] = (told.get(at, 0) - number * entry) % prime
            rest = {at: entry for at, entry in told.items() if entry != 0}
    return len(kept)
