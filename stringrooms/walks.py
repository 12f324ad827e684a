"""Walks: rows of letters, their strings, and lists of all strings."""

from stringrooms.counting import walk_numbers
from stringrooms.errors import NotWalk, TooGreat, Unlike
from stringrooms.helping import is_below
from stringrooms.plans import ends_of, follow_table, followers, from_point, may_follow

MOST_LETTERS = 60
MOST_STRINGS = 2000


def check_walk(plan, value):
    """Return the value if it is a walk of at most 60 letters; raise NotWalk with its place otherwise."""
    if not isinstance(value, tuple) or len(value) != 2:
        raise NotWalk(-1)
    point, letters = value
    if not is_below(point, 0, plan[0]) or not isinstance(letters, tuple) or len(letters) > MOST_LETTERS:
        raise NotWalk(-1)
    many = len(plan[1])
    if not all(is_below(letter, -many, many) for letter in letters):
        raise NotWalk(-1)
    for place, letter in enumerate(letters):
        if place == 0:
            fits = ends_of(plan, letter)[0] == point
        else:
            fits = may_follow(plan, letters[place - 1], letter)
        if not fits:
            raise NotWalk(place)
    return value


def points_of(plan, walk):
    """Return the points of the places of a walk."""
    return (walk[0],) + tuple(ends_of(plan, letter)[1] for letter in walk[1])


def end_of(plan, walk):
    """Return the point of the last place of a walk."""
    return ends_of(plan, walk[1][-1])[1] if walk[1] else walk[0]


def sizes_of(plan, walk):
    """Return for each point how many places of a walk lie there."""
    sizes = [0] * plan[0]
    for point in points_of(plan, walk):
        sizes[point] += 1
    return tuple(sizes)


def turned(plan, walk):
    """Return a walk turned about."""
    return (end_of(plan, walk), tuple(-1 - letter for letter in walk[1][::-1]))


def string_of(plan, walk):
    """Return the lesser one of a walk and it turned about."""
    return min(walk, turned(plan, walk))


def goings(plan, walk):
    """Return the letters that may be put behind a walk, ascending."""
    if walk[1]:
        return followers(plan, walk[1][-1])
    return from_point(plan, walk[0])


def joined(plan, walk, other):
    """Return the walk that goes a walk and then another one, or None if this is none."""
    if end_of(plan, walk) != other[0]:
        raise Unlike()
    if walk[1] and other[1] and not may_follow(plan, walk[1][-1], other[1][0]):
        return None
    return (walk[0], walk[1] + other[1])


def strings(plan, length):
    """Return all strings with so many letters, ascending; TooGreat for more than 2000."""
    numbers = walk_numbers(plan, length)
    total = numbers[0] if length == 0 else numbers[length] // 2
    if total > MOST_STRINGS:
        raise TooGreat(MOST_STRINGS)
    follow = follow_table(plan)
    going = _going_on(follow, length)
    walks = [(point, ()) for point in range(plan[0])]
    for done in range(length):
        walks = _longer(plan, follow, walks, going[length - done - 1])
    return _strings_among(plan, walks)


def strings_upto(plan, length):
    """Return all strings with at most so many letters, ascending; TooGreat for more than 2000."""
    numbers = walk_numbers(plan, length)
    if numbers[0] + sum(numbers[1:]) // 2 > MOST_STRINGS:
        raise TooGreat(MOST_STRINGS)
    follow = follow_table(plan)
    every = [True] * len(follow)
    walks = [(point, ()) for point in range(plan[0])]
    met = list(walks)
    for _ in range(length):
        walks = _longer(plan, follow, walks, every)
        met.extend(walks)
    return _strings_among(plan, met)


def _going_on(follow, length):
    """Return a list: for 0, 1, .. which letters may have so many more letters behind them.

    Without it, rows that end too early could be far more than those that are told.
    """
    table = [[True] * len(follow)]
    for _ in range(length):
        last = table[-1]
        table.append([any(last[letter] for letter in behind) for behind in follow])
    return table


def _longer(plan, follow, walks, going):
    """Return the walks with one more letter that is marked in going."""
    told = []
    for point, letters in walks:
        behind = follow[letters[-1]] if letters else from_point(plan, point)
        told.extend([(point, letters + (letter,)) for letter in behind if going[letter]])
    return told


def _strings_among(plan, walks):
    return tuple(sorted([walk for walk in walks if walk <= turned(plan, walk)]))


def in_renamed_plan(plan, walk, points, arrows):
    """Return the walk as a walk of the plan renamed with points and arrows."""
    letters = tuple(arrows[letter] if letter >= 0 else -1 - arrows[-1 - letter] for letter in walk[1])
    return (points[walk[0]], letters)


def in_turned_plan(plan, walk):
    """Return the walk as a walk of the turned plan."""
    return (walk[0], tuple(-1 - letter for letter in walk[1]))
