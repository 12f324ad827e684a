"""Sides of arrows, threads of something and of nothing, and the holes that they go round."""

from stringrooms.forms import parts_of
from stringrooms.plans import ahead_of, nil_ahead_of
from stringrooms.waypolynomials import pair_polynomial
from stringrooms.ways import longest_from, nil_row, nought_rounds

# Below, a point with a side is a pair (POINT, SIDE), and a lot of threads is a
# list of triples: the point with the side by which the turn comes to a thread,
# the thread, and the point with the side by which the turn goes on from it.


def sides(plan):
    """Return the pair of tuples, arrow by arrow, of the sides of the ends and of the beginnings."""
    ending, beginning = {}, {}
    for point in range(plan[0]):
        ends = [arrow for arrow, pair in enumerate(plan[1]) if pair[1] == point]
        starts = [arrow for arrow, pair in enumerate(plan[1]) if pair[0] == point]
        for side, arrow in enumerate(ends):
            ending[arrow] = side
        for side, arrow in enumerate(starts):
            # What goes on from the lesser arrow that ends here has its side, which is 0.
            beginning[arrow] = (1 if (ends[0], arrow) in plan[2] else 0) if ends else side
    many = len(plan[1])
    return (tuple(ending[arrow] for arrow in range(many)), tuple(beginning[arrow] for arrow in range(many)))


def _taken(plan):
    """Return two dicts: of the points with sides on which arrows end, and on which arrows begin."""
    ending, beginning = sides(plan)
    ends = {(pair[1], side): True for pair, side in zip(plan[1], ending)}
    return ends, {(pair[0], side): True for pair, side in zip(plan[1], beginning)}


def _places(plan):
    return [(point, side) for point in range(plan[0]) for side in (0, 1)]


def _something(plan):
    """Return the threads of something; the turn comes to one where it begins, and goes on where it ends."""
    ending, beginning = sides(plan)
    found = []
    for arrow, (start, _) in enumerate(plan[1]):
        if ahead_of(plan, arrow) is None:
            thread = longest_from(plan, arrow)
            last = thread[1][-1]
            found.append(((start, beginning[arrow]), thread, (plan[1][last][1], ending[last])))
    ends, starts = _taken(plan)
    for place in _places(plan):
        if place not in ends and place not in starts:
            found.append((place, (place[0], ()), place))
    return found


def _nothing(plan):
    """Return the threads of nothing; the turn comes to one at its end, from the other side, and goes on likewise."""
    ending, beginning = sides(plan)
    found = []
    for arrow, (start, _) in enumerate(plan[1]):
        if nil_ahead_of(plan, arrow) is None:
            row = nil_row(plan, arrow)
            last = row[-1]
            found.append(((plan[1][last][1], 1 - ending[last]), (start, row), (start, 1 - beginning[arrow])))
    ends, starts = _taken(plan)
    for point, side in _places(plan):
        if (point, 1 - side) not in ends and (point, side) not in starts:
            found.append(((point, side), (point, ()), (point, 1 - side)))
    return found


def threads_of_something(plan):
    """Return the ways that cannot be made longer, and the points with a side without arrows, ascending."""
    return tuple(sorted([thread for _, thread, _ in _something(plan)]))


def threads_of_nothing(plan):
    """Return the rows of noughts that cannot be made longer, and the points with sides for none, ascending."""
    return tuple(sorted([thread for _, thread, _ in _nothing(plan)]))


def rounds_of_nothing(plan):
    """Return the round rows of arrows that make noughts, each begun with its least arrow, ascending."""
    return nought_rounds(plan)


def holes(plan):
    """Return each hole as the tuple of its pairs of threads, begun so that it is least, ascending."""
    something = {place: (thread, end) for place, thread, end in _something(plan)}
    nothing = {place: (thread, end) for place, thread, end in _nothing(plan)}
    found = []
    done = {}
    for first in something:
        row = []
        here = first
        while here not in done:
            done[here] = True
            thread, end = something[here]
            behind, here = nothing[end]
            row.append((thread, behind))
        if row:
            found.append(tuple(min([row[place:] + row[:place] for place in range(len(row))])))
    return tuple(sorted(found))


def hole_pairs(plan):
    """Return for each hole how many threads of something and how many arrows of nothing it has, ascending."""
    pairs = [(len(hole), sum(len(behind[1]) for _, behind in hole)) for hole in holes(plan)]
    return tuple(sorted(pairs + [(0, len(row)) for row in nought_rounds(plan)]))


def genus(plan):
    """Return the genus, added over the parts that hang together."""
    # All parts together have twice their number, less twice the genus, more threads and holes than points.
    more = len(_something(plan)) + len(hole_pairs(plan)) - plan[0]
    return len(parts_of(plan)) - more // 2


def hole_polynomial(plan):
    """Return the numbers of 1, x, .., x ** SIZE of the product that the holes, the points and the arrows make."""
    told = list(pair_polynomial(hole_pairs(plan)))
    if not any(told):
        return (0,) * (plan[0] + 1)
    more = len(plan[1]) - plan[0]
    for _ in range(more):
        told = [old - other for old, other in zip([0] + told, told + [0])]
    for _ in range(-more):
        told = _less_one_root(told)
    return tuple(told)


def _less_one_root(numbers):
    """Return the numbers of a polynomial divided by x - 1, which divides it."""
    told = []
    total = 0
    for number in numbers[:0:-1]:
        total += number
        told.append(total)
    return told[::-1]
