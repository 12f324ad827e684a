"""Exchanges: one member of a full lot left out, and the other one that makes the rest full again."""

from stringrooms.blossoms import MOST_LONG, blossomed, long_in, short_in
from stringrooms.errors import TooGreat
from stringrooms.layers import hull_of
from stringrooms.lots import check_full
from stringrooms.plans import ahead_of, nil_ahead_of, nil_of
from stringrooms.walks import points_of, string_of, turned
from stringrooms.ways import longest_from

# Below, a member is told as short_of tells it, and a lot by the list of its
# members. lines is an object of Lines.


class Lines:
    """The blossomed plan, and what was worked out of it so far."""

    def __init__(self, plan):
        self.bloom = blossomed(plan)
        self._kept = {}
        self._shorts = {}
        self._ways = {}

    def long_borne(self, member):
        """Return the pair of a member's long walk and a dict of the arrows that it bears."""
        if member not in self._kept:
            value = long_in(self.bloom, member[1]) if member[0] == "string" else hull_of(self.bloom, member[1])
            self._kept[member] = (value, _borne(value[1]))
        return self._kept[member]

    def short(self, value):
        """Return what a long walk tells."""
        if value not in self._shorts:
            self._shorts[value] = short_in(self.bloom, value)
        return self._shorts[value]

    def way_bearing(self, arrow):
        """Return the long way that bears an arrow."""
        if arrow not in self._ways:
            first = arrow
            there = ahead_of(self.bloom, first)
            while there is not None:
                first = there
                there = ahead_of(self.bloom, first)
            self._ways[arrow] = longest_from(self.bloom, first)
        return self._ways[arrow]


def greatest(plan, lot):
    """Return for each arrow of the blossomed plan the number of the greatest member in its line, None for a way."""
    check_full(plan, lot)
    lines = Lines(plan)
    best = greatest_in(lines, members_of(lot))
    return tuple(best[arrow][1] if arrow in best else None for arrow in range(len(lines.bloom[1])))


def members_of(lot):
    """Return the list of the members of a lot."""
    return [("string", string) for string in lot[0]] + [("less", point) for point in lot[1]]


def lot_of(members):
    """Return the lot of some members."""
    strings = sorted([member[1] for member in members if member[0] == "string"])
    points = sorted([member[1] for member in members if member[0] == "less"])
    return (tuple(strings), tuple(points))


def greatest_in(lines, members):
    """Return a dict: for each arrow that members bear the triple of a rank, the number of the greatest, and its place.

    A way is less than all others in its line: its letters are all along.
    """
    best = {}
    for number, member in enumerate(members):
        for arrow, (rank, place) in lines.long_borne(member)[1].items():
            if arrow not in best or rank > best[arrow][0]:
                best[arrow] = (rank, number, place)
    return best


def _borne(letters):
    """Return a dict: for each arrow of a row the rank and the place at which the row, read along it, is the greatest.

    The rank tells letter by letter, behind the arrow and then ahead of it,
    which are against: at the first unlike letter the one along is the lesser.
    """
    many = len(letters)
    along = "".join("0" if letter >= 0 else "1" for letter in letters)
    about = "".join("1" if letter >= 0 else "0" for letter in letters[::-1])
    found = {}
    for place, letter in enumerate(letters):
        if letter >= 0:
            arrow, row, at = letter, along, place
        else:
            arrow, row, at = -1 - letter, about, many - 1 - place
        rank = (row[at + 1:], row[:at][::-1])
        if arrow not in found or rank > found[arrow][0]:
            found[arrow] = (rank, place)
    return found


def own_places(members, best):
    """Return for each member of a full lot the list of the two places at which it is the greatest, ascending."""
    places = [[] for _ in members]
    for _, number, place in best.values():
        places[number].append(place)
    return [sorted(pair) for pair in places]


def exchanged_in(lines, members, number, places):
    """Return the long walks H', S, T and H, S, T', and the member told by H', S, T'; TooGreat likewise."""
    first, last = places
    letters = lines.long_borne(members[number])[0][1]
    others = members[:number] + members[number + 1:]
    # What else may stand at an end of the piece makes a nought there with what stands there: so for any piece,
    # as in the blossomed plan each arrow goes on to one arrow and makes a nought with one.
    left, start = _reading(lines, others, -1 - _nil_letter(lines.bloom, -1 - letters[first]))
    right, end = _reading(lines, others, _nil_letter(lines.bloom, letters[last]))
    new = lines.short((left[0], left[1][:start + 1] + letters[first + 1:last] + right[1][end:]))
    if new[0] == "string" and len(new[1][1]) > MOST_LONG:
        raise TooGreat(MOST_LONG)
    return left, right, new


def step_in(lines, members, number, places):
    """Return what exchange_step tells, places being those of the member in own_places; TooGreat likewise."""
    left, right, new = exchanged_in(lines, members, number, places)
    value = lines.long_borne(members[number])[0]
    first, last = places
    point = points_of(lines.bloom, value)[first + 1]
    piece = string_of(lines.bloom, (point, value[1][first + 1:last]))
    way = -1 if value[1][first] < 0 else 1
    sides = tuple(sorted([lines.short(left), lines.short(right)]))
    return (lot_of(members[:number] + members[number + 1:] + [new]), new, piece, way, sides)


def _nil_letter(bloom, letter):
    """Return the letter of the other direction, from where a letter begins, whose arrow makes a nought with its own."""
    if letter >= 0:
        return -1 - nil_ahead_of(bloom, letter)
    return nil_of(bloom, -1 - letter)


def _reading(lines, members, letter):
    """Return the greatest of some members, or the way, in the line of a letter, read so that it has it, and where."""
    arrow = letter if letter >= 0 else -1 - letter
    rank, value, place = None, None, None
    for member in members:
        told, borne = lines.long_borne(member)
        if arrow in borne and (rank is None or borne[arrow][0] > rank):
            rank, value, place = borne[arrow][0], told, borne[arrow][1]
    if rank is None:
        value = lines.way_bearing(arrow)
        place = value[1].index(arrow)
    if value[1][place] == letter:
        return value, place
    return turned(lines.bloom, value), len(value[1]) - 1 - place


def exchange_step(plan, lot, number):
    """Return (LOT, NEW, PIECE, WAY, SIDES) of an exchange; NotLot("few"), TooGreat(400)."""
    check_full(plan, lot)
    lines = Lines(plan)
    members = members_of(lot)
    return step_in(lines, members, number, own_places(members, greatest_in(lines, members))[number])


def exchange(plan, lot, number):
    """Return the full lot with one member exchanged; errors likewise."""
    return exchange_step(plan, lot, number)[0]


def exchanges(plan, lot, numbers):
    """Return the full lot behind one exchange after another; errors likewise."""
    check_full(plan, lot)
    lines = Lines(plan)
    for number in numbers:
        members = members_of(lot)
        places = own_places(members, greatest_in(lines, members))[number]
        new = exchanged_in(lines, members, number, places)[2]
        lot = lot_of(members[:number] + members[number + 1:] + [new])
    return lot
