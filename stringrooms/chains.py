"""Chains: rows of steps, each a way along or against."""

from stringrooms.errors import NotWalk, TooGreat
from stringrooms.helping import is_below, is_integer, is_row
from stringrooms.plans import ends_of, mate_of, next_of, nil_ahead_of, nil_of, turned_plan

MOST_STEPS = 60
MOST_CHAINS = 2000


def check_chain(plan, value):
    """Return the value if it is a chain of at most 60 steps; raise NotWalk with its place otherwise."""
    if not isinstance(value, tuple) or len(value) != 2:
        raise NotWalk(-1)
    point, steps = value
    if not is_below(point, 0, plan[0]) or not isinstance(steps, tuple) or len(steps) > MOST_STEPS:
        raise NotWalk(-1)
    here = point
    for place, step in enumerate(steps):
        if not _is_step(plan, step):
            raise NotWalk(place)
        start, end = step_ends(plan, step)
        if start != here or (place > 0 and not _go_together(plan, steps[place - 1], step)):
            raise NotWalk(place)
        here = end
    return value


def _is_step(plan, value):
    if not isinstance(value, tuple) or len(value) != 2:
        return False
    turn, way = value
    if not is_integer(turn) or turn not in (1, -1):
        return False
    if not isinstance(way, tuple) or not way or not is_row(way, len(way), 0, len(plan[1])):
        return False
    return all(next_of(plan, way[at]) == way[at + 1] for at in range(len(way) - 1))


def step_ends(plan, step):
    """Return the points at which a step begins and ends."""
    turn, way = step
    start, end = plan[1][way[0]][0], plan[1][way[-1]][1]
    return (start, end) if turn == 1 else (end, start)


def _go_together(plan, step, other):
    """Tell whether a step may stand behind another one, where it begins at the end of this."""
    (turn, way), (next_turn, next_way) = step, other
    if turn == 1:
        if next_turn == 1:
            return (way[-1], next_way[0]) in plan[2]
        return way[-1] != next_way[-1]
    if next_turn == 1:
        return way[0] != next_way[0]
    return (next_way[-1], way[0]) in plan[2]


def chain_points(plan, chain):
    """Return the points of the places of a chain."""
    return (chain[0],) + tuple(step_ends(plan, step)[1] for step in chain[1])


def degrees(chain):
    """Return the degrees of the places of a chain, the least of which is 0."""
    told = [0]
    for turn, _ in chain[1]:
        told.append(told[-1] + turn)
    least = min(told)
    return tuple(degree - least for degree in told)


def chain_sizes(plan, chain):
    """Return for each point how many places of even degree, less those of odd degree, lie there."""
    sizes = [0] * plan[0]
    for point, degree in zip(chain_points(plan, chain), degrees(chain)):
        sizes[point] += 1 if degree % 2 == 0 else -1
    return tuple(sizes)


def chain_turned(plan, chain):
    """Return the chain from its end."""
    return (chain_points(plan, chain)[-1], tuple((-turn, way) for turn, way in chain[1][::-1]))


def chain_of(plan, chain):
    """Return the lesser one of a chain and it turned."""
    return min(chain, chain_turned(plan, chain))


# Written letter by letter, a chain is a row of letters, each beginning where
# the one ahead of it ends and none the back of it: where a letter is neither
# next of the one ahead nor the like against, a step begins.


def chains_of(plan, steps, arrows):
    """Return all chains of so many steps and so many arrows, ascending; TooGreat for more than 2000."""
    many = len(plan[1])
    if steps == 0 or not steps <= arrows <= steps * many:
        return tuple((point, ()) for point in range(plan[0])) if steps == 0 and arrows == 0 else ()
    within, beginning = _letters_behind(plan)
    numbers = _row_numbers(within, beginning, steps, arrows)
    letters = [letter for letter in range(-many, many) if numbers[arrows][steps][letter] > 0]
    # Of each chain and it turned, which are never the same, one is told.
    if sum(numbers[arrows][steps][letter] for letter in letters) // 2 > MOST_CHAINS:
        raise TooGreat(MOST_CHAINS)
    found = {}
    for row in _rows(within, beginning, numbers, letters, steps, arrows):
        chain = (ends_of(plan, row[0][0])[0], tuple(_step(step) for step in row))
        found[chain_of(plan, chain)] = True
    return tuple(sorted(found))


def _letters_behind(plan):
    """Return two lists: for each letter the one behind it in one step, or None, and those with which a step begins.

    Letters along are indexes from the front, letters against from the back.
    """
    many = len(plan[1])
    turned = turned_plan(plan)
    within, beginning = [], []
    for letter in list(range(many)) + list(range(-many, 0)):
        arrow, reading = (letter, plan) if letter >= 0 else (-1 - letter, turned)
        row = [next_of(reading, arrow), nil_of(reading, arrow)]
        if letter < 0:
            row = [None if other is None else -1 - other for other in row]
        within.append(row[0])
        beginning.append([other for other in (row[1], mate_of(plan, -1 - letter)) if other is not None])
    return within, beginning


def _row_numbers(within, beginning, steps, arrows):
    """Return for 0, 1, .. letters and for 0, 1, .. steps a list: how many rows of these begin with each letter."""
    zeros = [0] * len(within)
    table = [[zeros] * (steps + 1), [zeros, [1] * len(within)] + [zeros] * (steps - 1)]
    while len(table) <= arrows:
        last = table[-1]
        lines = [zeros]
        for step in range(1, steps + 1):
            same, less = last[step], last[step - 1]
            lines.append([(0 if behind is None else same[behind]) + sum([less[other] for other in others])
                          for behind, others in zip(within, beginning)])
        table.append(lines)
    return table


def _rows(within, beginning, numbers, letters, steps, arrows):
    """Return the rows of so many letters in so many steps, each step a tuple, that begin with some letters."""
    waiting = [(((letter,),), steps, arrows - 1) for letter in letters]
    found = []
    while waiting:
        row, more, left = waiting.pop()
        if left == 0:
            found.append(row)
            continue
        last = row[-1][-1]
        if within[last] is not None and numbers[left][more][within[last]] > 0:
            waiting.append((row[:-1] + (row[-1] + (within[last],),), more, left - 1))
        for letter in beginning[last]:
            if numbers[left][more - 1][letter] > 0:
                waiting.append((row + ((letter,),), more - 1, left - 1))
    return found


def _step(letters):
    """Return the step of a row of letters of one direction."""
    if letters[0] >= 0:
        return (1, letters)
    return (-1, tuple(-1 - letter for letter in letters[::-1]))
