"""All full lots of a plan without bands."""

from stringrooms.errors import Endless, TooGreat
from stringrooms.exchanges import Lines, exchanged_in, greatest_in, lot_of, members_of, own_places
from stringrooms.lots import most_lot, written
from stringrooms.peace import sign_of
from stringrooms.rounds import has_bands

MOST_LOTS = 500


def all_lots(plan):
    """Return all full lots, ascending; Endless with bands, TooGreat for more than 500."""
    if has_bands(plan):
        raise Endless()
    lines = Lines(plan)
    first = most_lot(plan)
    met = {first: True}
    waiting = [first]
    # Each full lot but the one that makes the most comes of one that makes more.
    while waiting:
        here = waiting.pop()
        for lot in _lesser_lots(lines, members_of(here)):
            if lot not in met:
                met[lot] = True
                waiting.append(lot)
        if len(met) > MOST_LOTS:
            raise TooGreat(MOST_LOTS)
    return tuple(sorted(met))


def _lesser_lots(lines, members):
    """Return the full lots to which exchanges with WAY -1 lead from one."""
    found = []
    for number, places in enumerate(own_places(members, greatest_in(lines, members))):
        letters = lines.long_borne(members[number])[0][1]
        if letters[places[0]] < 0:
            new = exchanged_in(lines, members, number, places)[2]
            found.append(lot_of(members[:number] + members[number + 1:] + [new]))
    return found


def lots_with(plan, lot):
    """Return the full lots with all members of a lot, ascending; errors likewise."""
    return tuple(full for full in all_lots(plan)
                 if all([string in full[0] for string in lot[0]]) and all([point in full[1] for point in lot[1]]))


def lot_at(plan, numbers):
    """Return the one pair (LOT, TIMES) with which signs add up to numbers; errors likewise."""
    signs = {}
    for lot in all_lots(plan):
        if _may_tell(plan, signs, lot, numbers):
            times = written(plan, lot, numbers)
            if min(times) >= 0:
                members = [member for member, often in zip(members_of(lot), times) if often > 0]
                return (lot_of(members), tuple(often for often in times if often > 0))
    return None


def _may_tell(plan, signs, lot, numbers):
    """Tell whether the sign rows of a full lot fit numbers at each point; signs keeps the signs of strings.

    In each column no two of them are on either side of 0, so their sum tells
    on which side they are.
    """
    sums = [0] * plan[0]
    for point in lot[1]:
        sums[point] -= 1
    for string in lot[0]:
        if string not in signs:
            signs[string] = sign_of(plan, string)
        sums = [old + new for old, new in zip(sums, signs[string])]
    return all(number == 0 or number * total > 0 for number, total in zip(numbers, sums))
