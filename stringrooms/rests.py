"""Rests: what the covers of walks and of rounds lead to nothing."""

from stringrooms.layers import low_places, round_low_places
from stringrooms.plans import ends_of, mate_of, next_of
from stringrooms.walks import points_of, string_of
from stringrooms.ways import longest_from


def cover_of(plan, point):
    """Return the cover of a point: the string of all ways from it."""
    rows = [longest_from(plan, arrow)[1] for arrow, ends in enumerate(plan[1]) if ends[0] == point] + [(), ()]
    start = plan[1][rows[0][-1]][1] if rows[0] else point
    return string_of(plan, (start, tuple(-1 - arrow for arrow in rows[0][::-1]) + rows[1]))


def tail_of(plan, arrow):
    """Return the string of the way that goes on from an arrow as far as it goes."""
    behind = next_of(plan, arrow)
    if behind is None:
        return (plan[1][arrow][1], ())
    return string_of(plan, longest_from(plan, behind))


def rest_parts(plan, walk):
    """Return the points of the inner low places and the arrows of the tails of a walk, both ascending."""
    points = points_of(plan, walk)
    inner = [points[place] for place in low_places(plan, walk) if 0 < place < len(walk[1])]
    arrows = [arrow for arrow in tail_ends(plan, walk) if arrow is not None]
    return (tuple(sorted(inner)), tuple(sorted(arrows)))


def tail_ends(plan, walk):
    """Return the arrows of the tails at the first and at the last place of a walk, None where there is none."""
    if not walk[1]:
        arrows = [arrow for arrow, ends in enumerate(plan[1]) if ends[0] == walk[0]] + [None, None]
        return (arrows[1], arrows[0])
    arrows = []
    for letter in (-1 - walk[1][0], walk[1][-1]):
        arrows.append(next_of(plan, letter) if letter >= 0 else mate_of(plan, -1 - letter))
    return tuple(arrows)


def rest_of(plan, walk):
    """Return the strings of which the rest of a walk is the sum, ascending."""
    points, arrows = rest_parts(plan, walk)
    found = [cover_of(plan, point) for point in points] + [tail_of(plan, arrow) for arrow in arrows]
    return tuple(sorted(found))


def round_rest(plan, letters):
    """Return the points of the low places of a round, ascending."""
    return tuple(sorted(ends_of(plan, letters[place])[0] for place in round_low_places(plan, letters)))
