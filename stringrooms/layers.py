"""Parts of rooms of walks: tops and low places, closed sets, layers, ways on units."""

from stringrooms.errors import NotPaper, NoWay, TooGreat
from stringrooms.helping import is_row
from stringrooms.pieces import let_go, piece_of, taken_in
from stringrooms.plans import ahead_of, ends_of
from stringrooms.walks import points_of, string_of

MOST_SETS = 400


def tops(plan, walk):
    """Return the places of a walk to which no letter leads, ascending."""
    letters = walk[1]
    return tuple(place for place in range(len(letters) + 1)
                 if (place == 0 or letters[place - 1] < 0) and (place == len(letters) or letters[place] >= 0))


def low_places(plan, walk):
    """Return the places of a walk from which no letter leads away, ascending."""
    return tops(plan, (walk[0], tuple(-1 - letter for letter in walk[1])))


def round_tops(plan, letters):
    """Return the tops of a round written without end, from 0 below its length, ascending."""
    return tuple(place for place in range(len(letters)) if letters[place - 1] < 0 <= letters[place])


def round_low_places(plan, letters):
    """Return the low places of a round written without end, from 0 below its length, ascending."""
    return tuple(place for place in range(len(letters)) if letters[place - 1] >= 0 > letters[place])


def cover_points(plan, walk):
    """Return the points of the tops of a walk, ascending."""
    points = points_of(plan, walk)
    return tuple(sorted(points[place] for place in tops(plan, walk)))


def hull_points(plan, walk):
    """Return the points of the low places of a walk, ascending."""
    points = points_of(plan, walk)
    return tuple(sorted(points[place] for place in low_places(plan, walk)))


def hull_of(plan, point):
    """Return the string of all ways into a point."""
    rows = [(), ()]
    ending = [arrow for arrow, ends in enumerate(plan[1]) if ends[1] == point]
    for place, arrow in enumerate(ending):
        here = arrow
        while here is not None:
            rows[place] = (here,) + rows[place]
            here = ahead_of(plan, here)
    start = plan[1][rows[0][0]][0] if rows[0] else point
    return string_of(plan, (start, rows[0] + tuple(-1 - arrow for arrow in rows[1][::-1])))


def sub_strings(plan, walk):
    """Return the unlike strings of all pieces of a walk that are taken in, ascending."""
    return _unlike_strings(plan, walk, taken_in(plan, walk))


def let_go_strings(plan, walk):
    """Return the unlike strings of all pieces of a walk that are let go, ascending."""
    return _unlike_strings(plan, walk, let_go(plan, walk))


def _unlike_strings(plan, walk, pieces):
    found = {string_of(plan, piece_of(plan, walk, first, last)): True for first, last in pieces}
    return tuple(sorted(found))


def closed_number(plan, walk):
    """Return how many closed sets of places a walk has."""
    without, within = 1, 1
    for letter in walk[1]:
        # Along, what is in takes the next place in; against, the next one takes it in.
        if letter >= 0:
            without, within = without, without + within
        else:
            without, within = without + within, within
    return without + within


def closed_sets(plan, walk):
    """Return all closed sets of places of a walk, ascending; TooGreat for more than 400."""
    if closed_number(plan, walk) > MOST_SETS:
        raise TooGreat(MOST_SETS)
    sets = [(), (0,)]
    for place, letter in enumerate(walk[1]):
        longer = []
        for told in sets:
            within = told[-1:] == (place,)
            if within or letter >= 0:
                longer.append(told + (place + 1,))
            if not within or letter < 0:
                longer.append(told)
        sets = longer
    return tuple(sorted(sets))


def set_strings(plan, walk, places):
    """Return the strings of the rows of places in a closed set, and of those that are not; NotPaper for no such set."""
    many = len(walk[1]) + 1
    if not isinstance(places, tuple) or not is_row(places, len(places), 0, many):
        raise NotPaper("places")
    if any(places[at] >= places[at + 1] for at in range(len(places) - 1)):
        raise NotPaper("places")
    for place, letter in enumerate(walk[1]):
        start, end = (place, place + 1) if letter >= 0 else (place + 1, place)
        if start in places and end not in places:
            raise NotPaper("places")
    others = [place for place in range(many) if place not in places]
    return (_row_strings(plan, walk, places), _row_strings(plan, walk, others))


def _row_strings(plan, walk, places):
    """Return the strings of all rows of neighbours among some places, ascending."""
    found = []
    first = None
    for at, place in enumerate(places):
        if first is None:
            first = place
        if at + 1 == len(places) or places[at + 1] != place + 1:
            found.append(string_of(plan, piece_of(plan, walk, first, place)))
            first = None
    return tuple(sorted(found))


def depths(plan, walk):
    """Return for each place the greatest number of letters one behind another that lead to it."""
    letters = walk[1]
    ahead = [0]
    for letter in letters:
        ahead.append(ahead[-1] + 1 if letter >= 0 else 0)
    back = [0]
    for letter in letters[::-1]:
        back.append(back[-1] + 1 if letter < 0 else 0)
    return tuple(max(pair) for pair in zip(ahead, back[::-1]))


def heights(plan, walk):
    """Return for each place the greatest number of letters one behind another that lead away from it."""
    return depths(plan, (walk[0], tuple(-1 - letter for letter in walk[1])))


def layers(plan, walk):
    """Return for each depth from 0 how many places of this depth lie at each point."""
    return _by_levels(plan, walk, depths(plan, walk))


def feet(plan, walk):
    """Return for each height from 0 how many places of this height lie at each point."""
    return _by_levels(plan, walk, heights(plan, walk))


def _by_levels(plan, walk, levels):
    told = [[0] * plan[0] for _ in range(max(levels) + 1)]
    for point, level in zip(points_of(plan, walk), levels):
        told[level][point] += 1
    return tuple(tuple(sizes) for sizes in told)


def layer_number(plan, walk):
    """Return how many layers a walk has."""
    return max(depths(plan, walk)) + 1


def way_rank(plan, walk, point, arrows):
    """Return how many units of a walk at a point a way leads to a unit; raise NoWay for no way from the point."""
    many = len(plan[1])
    if not is_row(arrows, len(arrows), 0, many):
        raise NoWay()
    here = point
    for at, arrow in enumerate(arrows):
        if ends_of(plan, arrow)[0] != here or (at > 0 and (arrows[at - 1], arrow) in plan[2]):
            raise NoWay()
        here = ends_of(plan, arrow)[1]
    letters = walk[1]
    length = len(arrows)
    about = tuple(-1 - arrow for arrow in arrows[::-1])
    told = 0
    for place, lying in enumerate(points_of(plan, walk)):
        along = letters[place:place + length] == arrows
        against = place >= length and letters[place - length:place] == about
        if lying == point and (along or against):
            told += 1
    return told
