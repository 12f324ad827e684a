"""What full lots make: the walks, parts and strings all of whose units they lead units to."""

from stringrooms.layers import set_strings
from stringrooms.peace import part_stops, stops
from stringrooms.pieces import map_number, map_pairs
from stringrooms.plans import ends_of
from stringrooms.rounds import all_strings
from stringrooms.translating import back
from stringrooms.walks import points_of


def makes(plan, lot, walk):
    """Tell whether a full lot makes the room of a walk."""
    if any(point in lot[1] for point in points_of(plan, walk)):
        return False
    return all(stops(plan, walk, string) == 0 for string in lot[0])


def part_made(plan, prime, lot, part):
    """Tell whether a full lot makes the room of a part."""
    if part[0] == "string":
        points = points_of(plan, part[1])
    else:
        points = [ends_of(plan, letter)[0] for letter in part[1]]
    if any(point in lot[1] for point in points):
        return False
    return all(part_stops(plan, prime, part, string) == 0 for string in lot[0])


def reach(plan, strings, walk):
    """Return the places of a walk that lie in the second piece of a pair from one of the strings, ascending."""
    places = {}
    for string in strings:
        for _, _, start, end, _ in map_pairs(plan, string, walk):
            places.update({place: True for place in range(start, end + 1)})
    return tuple(sorted(places))


def first_part(plan, lot, walk):
    """Return the strings of the reached places of a walk, and those of what is left, both ascending."""
    return set_strings(plan, walk, reach(plan, lot[0], walk))


def over(plan, lot, other):
    """Tell whether a full lot makes each string of another one."""
    return all(makes(plan, lot, string) for string in other[0])


def made(plan, lot):
    """Return all strings that a full lot makes, ascending; Endless with bands, TooGreat for more than 2000 strings."""
    return tuple(made_among(plan, lot, all_strings(plan)))


def made_among(plan, lot, strings):
    """Return those of some strings that have no place at a point of a lot and no map to back of a string of it."""
    before = [back(plan, string) for string in lot[0]]
    goals = [string for string in before if string is not None]
    told = []
    for string in strings:
        if not any(point in lot[1] for point in points_of(plan, string)):
            if all(map_number(plan, string, goal) == 0 for goal in goals):
                told.append(string)
    return told
