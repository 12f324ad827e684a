"""Pieces of walks and rounds, and the pairs of them that are maps."""

from stringrooms.fields import power_of, undone
from stringrooms.plans import ends_of
from stringrooms.rounds import band_of, band_place
from stringrooms.walks import points_of

# Below, a line is a triple: the points of the places of a walk or a round, its
# letters, and whether it is a round, written without end.


def piece_of(plan, walk, first, last):
    """Return the walk between two places of a walk."""
    point = ends_of(plan, walk[1][first - 1])[1] if first > 0 else walk[0]
    return (point, walk[1][first:last])


def _walk_line(plan, walk):
    return (points_of(plan, walk), walk[1], False)


def _round_line(plan, letters):
    return (tuple(ends_of(plan, letter)[0] for letter in letters), letters, True)


def _letter(line, place):
    """Return the letter behind a place, or None."""
    _, letters, endless = line
    if endless:
        return letters[place % len(letters)]
    return letters[place] if 0 <= place < len(letters) else None


def _exchanged(line):
    """Return the line with all its arrows turned: what was taken in is let go."""
    points, letters, endless = line
    return (points, tuple(-1 - letter for letter in letters), endless)


def _may_begin(line, place):
    """Tell whether a piece that is let go may begin at a place."""
    letter = _letter(line, place - 1)
    return letter is None or letter < 0


def _may_end(line, place):
    """Tell whether a piece that is let go may end at a place."""
    letter = _letter(line, place)
    return letter is None or letter >= 0


def let_go(plan, walk):
    """Return the pairs (I, J) of all pieces of a walk that are let go, ascending."""
    return _let_go(_walk_line(plan, walk))


def taken_in(plan, walk):
    """Return the pairs (I, J) of all pieces of a walk that are taken in, ascending."""
    return _let_go(_exchanged(_walk_line(plan, walk)))


def _let_go(line):
    many = len(line[0])
    ends = [place for place in range(many) if _may_end(line, place)]
    return tuple((first, last) for first in range(many) if _may_begin(line, first) for last in ends if first <= last)


def _runs(line, other):
    """Return the tuples (FIRST, STEPS, PLACE, WAY) of a piece of line that is let go and one of other that is taken in.

    They begin at FIRST and PLACE and read alike (1) or turned about (-1). At
    both ends one goes on along where the other one goes on against: each pair
    is a longest row that reads alike, one at most for two places to begin at.
    """
    begins = [place for place in range(len(line[0])) if _may_begin(line, place)]
    goal = _exchanged(other)
    found = []
    for place in range(len(other[0])):
        fitting = [first for first in begins if line[0][first] == other[0][place]]
        if _may_begin(goal, place):
            for first in fitting:
                steps = _steps_alike(line, first, other, place)
                if _may_end(line, first + steps) and _may_end(goal, place + steps):
                    found.append((first, steps, place, 1))
        if _may_end(goal, place):
            for first in fitting:
                steps = _steps_turned(line, first, other, place)
                if steps > 0 and _may_end(line, first + steps) and _may_begin(goal, place - steps):
                    found.append((first, steps, place - steps, -1))
    return found


def _most_steps(line, other):
    """Return how many letters two rounds can share at most, unless they share all."""
    return len(line[1]) + len(other[1])


def _steps_alike(line, first, other, place):
    """Return how many letters behind two places are alike."""
    steps = 0
    most = _most_steps(line, other)
    letter = _letter(line, first)
    while letter is not None and letter == _letter(other, place + steps) and steps < most:
        steps += 1
        letter = _letter(line, first + steps)
    return steps


def _steps_turned(line, first, other, place):
    """Return how many letters behind the first place are backs of those ahead of the other one."""
    steps = 0
    most = _most_steps(line, other)
    letter = _letter(other, place - 1)
    while letter is not None and -1 - letter == _letter(line, first + steps) and steps < most:
        steps += 1
        letter = _letter(other, place - steps - 1)
    return steps


def map_pairs(plan, walk, other):
    """Return the pairs (I, J, K, L, WAY) of a walk and another one, ascending."""
    runs = _runs(_walk_line(plan, walk), _walk_line(plan, other))
    return tuple(sorted((first, first + steps, place, place + steps, way) for first, steps, place, way in runs))


def map_number(plan, walk, other):
    """Return how many pairs a walk and another one have."""
    return len(_runs(_walk_line(plan, walk), _walk_line(plan, other)))


def round_let_go(plan, letters, most):
    """Return the triples (FIRST, LENGTH, WALK) of the pieces of a round that are let go, ascending."""
    line = _round_line(plan, letters)
    return _round_pieces(line, line, most)


def round_taken_in(plan, letters, most):
    """Return the triples (FIRST, LENGTH, WALK) of the pieces of a round that are taken in, ascending."""
    line = _round_line(plan, letters)
    return _round_pieces(line, _exchanged(line), most)


def _round_pieces(line, reading, most):
    """Return the pieces of a round of at most so many letters that are let go in another reading of it."""
    found = []
    for first in range(len(line[0])):
        if _may_begin(reading, first):
            row = tuple(_letter(line, place) for place in range(first, first + most))
            found.extend([(first, length, (line[0][first], row[:length])) for length in range(most + 1)
                          if _may_end(reading, first + length)])
    return tuple(found)


def pairs_to_round(plan, walk, letters):
    """Return the tuples (I, J, FIRST, WAY) of maps from a walk to a round, ascending."""
    runs = _runs(_walk_line(plan, walk), _round_line(plan, letters))
    many = len(letters)
    return tuple(sorted((first, first + steps, place % many, way) for first, steps, place, way in runs))


def pairs_from_round(plan, letters, walk):
    """Return the tuples (FIRST, K, L, WAY) of maps from a round to a walk, ascending."""
    runs = _runs(_round_line(plan, letters), _walk_line(plan, walk))
    return tuple(sorted((first, place, place + steps, way) for first, steps, place, way in runs))


def pairs_of_rounds(plan, letters, others):
    """Return the tuples (FIRST, LENGTH, PLACE, WAY) of maps from a round to another one, ascending."""
    runs = _runs(_round_line(plan, letters), _round_line(plan, others))
    many = len(others)
    return tuple(sorted((first, steps, place % many, way) for first, steps, place, way in runs))


def part_number(plan, prime, one, other):
    """Return how many maps the room of a part has to that of another one; raise NotPoly for a POLY that is no power."""
    degrees = _degree(prime, one) * _degree(prime, other)
    if one[0] == "string" and other[0] == "string":
        return map_number(plan, one[1], other[1])
    if one[0] == "string":
        return degrees * len(pairs_to_round(plan, one[1], other[1]))
    if other[0] == "string":
        return degrees * len(pairs_from_round(plan, one[1], other[1]))
    return degrees * len(pairs_of_rounds(plan, one[1], other[1])) + _maps_around(plan, prime, one, other)


def _degree(prime, part):
    """Return the degree of a part's polynomial, 1 for a string; raise NotPoly if it is no power of an irreducible."""
    if part[0] == "string":
        return 1
    factor, many = power_of(prime, part[2])
    return many * len(factor)


def _maps_around(plan, prime, one, other):
    """Return how many maps of two bands go round with them: none if their rounds or polynomials are unlike."""
    factor, many = power_of(prime, _band_poly(plan, prime, one))
    other_factor, other_many = power_of(prime, _band_poly(plan, prime, other))
    if band_of(plan, one[1]) != band_of(plan, other[1]) or factor != other_factor:
        return 0
    return min(many, other_many) * len(factor)


def _band_poly(plan, prime, part):
    """Return the polynomial of a band part for the band in its least form."""
    return part[2] if band_place(plan, part[1])[1] == 1 else undone(prime, part[2])
