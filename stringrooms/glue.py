"""Plans glued, cornered and doubled, and what becomes of their walks and rooms."""

from stringrooms.errors import TooGreat
from stringrooms.plans import MOST_POINTS, check_plan, next_of
from stringrooms.rooms import way_table


def glued(plan, point, other):
    """Return the plan with other laid upon point, all pairs that meet newly noughts; NotPlan for what is no plan."""
    size, arrows, noughts = plan
    new = [(first, second) for first, ends in enumerate(arrows) for second, goals in enumerate(arrows)
           if (ends[1], goals[0]) in ((point, other), (other, point))]
    return check_plan((size - 1, _laid_upon(arrows, point, other), tuple(sorted(noughts + tuple(new)))))


def joined_at(plan, point, other):
    """Return the plan with other laid upon point, no pair that meets newly a nought; NotPlan likewise."""
    size, arrows, noughts = plan
    return check_plan((size - 1, _laid_upon(arrows, point, other), noughts))


def _laid_upon(arrows, point, other):
    """Return the arrows with other laid upon point, which is less, and the points above it one less."""
    told = []
    for ends in arrows:
        new = [point if end == other else end for end in ends]
        told.append(tuple(end - 1 if end > other else end for end in new))
    return tuple(told)


def corner_ways(plan, kept):
    """Return the ways of an arrow or more that begin and end at points kept, with no other place there, ascending."""
    found = []
    for arrow, (start, _) in enumerate(plan[1]):
        if start in kept:
            row = (arrow,)
            while row[-1] is not None and plan[1][row[-1]][1] not in kept:
                row = row + (next_of(plan, row[-1]),)
            if row[-1] is not None:
                found.append(row)
    return tuple(sorted(found))


def corner(plan, kept):
    """Return the plan of the points kept and of the ways from one to the next of them."""
    ways = corner_ways(plan, kept)
    ends = tuple((kept.index(plan[1][way[0]][0]), kept.index(plan[1][way[-1]][1])) for way in ways)
    noughts = tuple((number, place) for number, way in enumerate(ways) for place, other in enumerate(ways)
                    if (way[-1], other[0]) in plan[2])
    return (len(kept), ends, noughts)


def corner_room(plan, prime, room, kept):
    """Return the room of the corner with the units at points kept and the products of tables along the ways."""
    tables = tuple(way_table(plan, prime, room, plan[1][way[0]][0], way) for way in corner_ways(plan, kept))
    return (tuple(room[0][point] for point in kept), tables)


# In the doubled plan the points of sheet 1 are SIZE more than those of sheet 0,
# and over the arrow A lie 2 A, which begins on sheet 0, and 2 A + 1.


def doubled(plan, crossing):
    """Return the plan with two sheets, between which the arrows in crossing lead; TooGreat for more than 12 points."""
    size, arrows, noughts = plan
    if 2 * size > MOST_POINTS:
        raise TooGreat(MOST_POINTS)
    ends = []
    for arrow, (start, end) in enumerate(arrows):
        ends.extend([(start + size * sheet, end + size * _sheet_behind(crossing, arrow, sheet)) for sheet in (0, 1)])
    pairs = []
    for first, second in noughts:
        pairs.extend([(2 * first + sheet, 2 * second + _sheet_behind(crossing, first, sheet)) for sheet in (0, 1)])
    return (2 * size, tuple(ends), tuple(sorted(pairs)))


def _sheet_behind(crossing, arrow, sheet):
    """Return the sheet on which an arrow ends that begins on a sheet, or the other way round."""
    return 1 - sheet if arrow in crossing else sheet


def laid_down(plan, walk):
    """Return the walk of a plan that lies under a walk of the doubled one."""
    # Both 2 A and 2 A + 1 tell A; -1 - 2 A and -2 - 2 A, halved downward, tell -1 - A.
    return (walk[0] % plan[0], tuple(letter // 2 for letter in walk[1]))


def lifted(plan, crossing, walk, sheet):
    """Return the walk of the doubled plan over a walk that begins on a sheet."""
    letters = []
    here = sheet
    for letter in walk[1]:
        if letter >= 0:
            letters.append(2 * letter + here)
            here = _sheet_behind(crossing, letter, here)
        else:
            here = _sheet_behind(crossing, -1 - letter, here)
            letters.append(2 * letter + 1 - here)
    return (walk[0] + plan[0] * sheet, tuple(letters))


def laid_room(plan, crossing, prime, room):
    """Return the room of a plan with the units of both sheets of a room of the doubled one, and its tables together."""
    size = plan[0]
    units, tables = room
    told = []
    for arrow, (_, end) in enumerate(plan[1]):
        rows = []
        for sheet in (0, 1):
            other = _sheet_behind(crossing, arrow, sheet)
            zeros = (0,) * units[end + size * (1 - other)]
            for row in tables[2 * arrow + sheet]:
                rows.append(row + zeros if other == 0 else zeros + row)
        told.append(tuple(rows))
    return (tuple(units[point] + units[size + point] for point in range(size)), tuple(told))
