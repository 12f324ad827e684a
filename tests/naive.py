"""Plain counts and searches, written from the definitions alone, and drawn inputs for the tests."""

import itertools
import random

PRIMES = (2, 3, 5, 7)

POINT = (1, (), ())
TWELVE = (12, (), ())
LINE = (3, ((0, 1), (1, 2)), ())
LINE_NOUGHT = (3, ((0, 1), (1, 2)), ((0, 1),))
LOOP = (1, ((0, 0),), ((0, 0),))
DOUBLE = (2, ((0, 1), (0, 1)), ())
RING = (3, ((0, 1), (1, 2), (2, 0)), ((0, 1), (1, 2), (2, 0)))
FORK = (3, ((0, 1), (2, 1)), ())
# One band, with a tail at it on either side.
TAILED = (4, ((0, 1), (1, 2), (1, 2), (2, 3)), ((0, 1), (2, 3)))
# Two doubled arrows behind one another: a walk leads from one band to the other one.
CHAINED = (4, ((0, 1), (0, 1), (1, 2), (2, 3), (2, 3)), ((1, 2), (2, 4)))


def _full():
    """12 points and 23 arrows, all of them in one longest way: with a 24th one some way would never end."""
    arrows = [(p, (p + 1) % 12) for p in range(12)] + [(p, (p + 5) % 12) for p in range(12)]
    noughts = []
    for p in range(12):
        ins = ((p - 1) % 12, 12 + (p - 5) % 12)
        outs = (p, 12 + p) if p == 11 else (12 + p, p)
        noughts += [pair for pair in zip(ins, outs) if 23 not in pair]
    return (12, tuple(arrows[:23]), tuple(sorted(noughts)))


FULL = _full()
# Plans without bands that have 2506, 1787, 300 and 301 strings.
GREAT = (8, ((1, 0), (2, 1), (0, 4), (5, 7), (1, 2), (5, 3), (7, 7), (7, 5), (0, 1), (3, 2), (2, 5)),
         ((0, 8), (1, 4), (3, 7), (4, 1), (6, 6), (7, 3), (8, 0), (9, 10), (10, 5)))
WIDE = (12, ((9, 0), (5, 0), (10, 5), (1, 2), (7, 4), (8, 8), (4, 9), (9, 8), (4, 10), (8, 9), (11, 7), (2, 5), (3, 3),
             (5, 2), (1, 11)),
        ((2, 1), (4, 8), (5, 5), (6, 0), (7, 9), (9, 7), (11, 13), (12, 12), (13, 11), (14, 10)))
THREE_HUNDRED = (12, ((3, 7), (6, 3), (4, 3), (1, 5), (7, 7), (1, 6), (3, 6), (7, 4), (11, 10)),
                 ((0, 7), (1, 6), (2, 0), (4, 4), (6, 1)))
# 97 strings of four points, and 1951 of eight: with other points and plans beside them as many as a test asks for.
NEARLY_100 = (4, ((1, 2), (2, 3), (0, 0), (3, 0), (3, 1), (0, 3)), ((1, 4), (2, 2), (3, 5), (4, 0), (5, 3)))
NEARLY_2000 = (8, ((1, 0), (2, 1), (0, 4), (5, 7), (1, 2), (5, 3), (7, 7), (7, 5), (0, 1), (6, 4), (2, 5), (3, 6)),
               ((0, 8), (1, 4), (3, 7), (4, 1), (5, 11), (6, 6), (7, 3), (8, 0), (10, 5)))
FIFTY = (4, ((2, 3), (3, 2), (1, 1), (1, 3), (2, 0)), ((0, 1), (1, 0), (2, 2)))
ONE_MORE = (11, ((2, 0), (2, 2), (3, 1), (4, 5), (4, 3), (5, 0), (0, 5), (1, 2), (1, 4), (3, 6)),
            ((1, 1), (2, 8), (4, 2), (5, 6), (6, 5), (7, 0), (8, 3)))
BY_HAND = (POINT, TWELVE, LINE, LINE_NOUGHT, LOOP, DOUBLE, RING, FORK, TAILED, CHAINED)

ODD_VALUES = (None, True, False, 0, 1, -1, 10 ** 30, "", "plan", b"x", [], {}, (), (1,), (1, 2), (1, 2, 3), ((),),
              ((), ()), ((), (), ()), [0, ()], (0, []), (0, ((),)), ((0,), 0), 1.5, object())


def is_gentle(plan):
    """Whether a triple of the right form is a plan, straight from the definition."""
    size, arrows, noughts = plan
    many = len(arrows)
    for p in range(size):
        if sum(a == p for a, _ in arrows) > 2 or sum(b == p for _, b in arrows) > 2:
            return False
    for x in range(many):
        ahead = [(a, x) in noughts for a in range(many) if arrows[a][1] == arrows[x][0]]
        behind = [(x, a) in noughts for a in range(many) if arrows[a][0] == arrows[x][1]]
        if any(side.count(True) > 1 or side.count(False) > 1 for side in (ahead, behind)):
            return False
    rows = [(a,) for a in range(many)]
    for _ in range(many):
        rows = [row + (b,) for row in rows for b in range(many)
                if arrows[row[-1]][1] == arrows[b][0] and (row[-1], b) not in noughts]
    return not rows


def drawn_plan(rng, most=6, least=1, fill=2):
    """A drawn plan with least to most points."""
    while True:
        size = rng.randint(least, most)
        arrows = []
        for _ in range(rng.randint(0, fill * size)):
            a, b = rng.randrange(size), rng.randrange(size)
            if sum(x == a for x, _ in arrows) < 2 and sum(y == b for _, y in arrows) < 2:
                arrows.append((a, b))
        noughts = []
        for p in range(size):
            ins = [i for i, e in enumerate(arrows) if e[1] == p]
            outs = [i for i, e in enumerate(arrows) if e[0] == p]
            if len(ins) == 1 and len(outs) == 1:
                if rng.random() < 0.4 or ins == outs:
                    noughts.append((ins[0], outs[0]))
            elif len(ins) + len(outs) == 3 and ins and outs:
                noughts.append((rng.choice(ins), rng.choice(outs)))
            elif len(ins) == 2 and len(outs) == 2:
                rng.shuffle(outs)
                noughts.extend(zip(ins, outs))
        plan = (size, tuple(arrows), tuple(sorted(noughts)))
        if is_gentle(plan):
            return plan


def drawn_plans(seed, many, most=6, least=1):
    rng = random.Random(seed)
    return [drawn_plan(rng, most, least) for _ in range(many)]


def plans_for(seed, many, most=6):
    """The plans by hand and some drawn ones."""
    return list(BY_HAND) + drawn_plans(seed, many, most)


def letters_of(plan):
    return range(-len(plan[1]), len(plan[1]))


def ends(plan, letter):
    return plan[1][letter] if letter >= 0 else plan[1][-1 - letter][::-1]


def follows(plan, letter, other):
    """Whether other may stand behind letter, straight from the definition of a walk."""
    if ends(plan, letter)[1] != ends(plan, other)[0] or other == -1 - letter:
        return False
    if letter >= 0 and other >= 0 and (letter, other) in plan[2]:
        return False
    if letter < 0 and other < 0 and (-1 - other, -1 - letter) in plan[2]:
        return False
    return True


def walks(plan, length):
    """All walks with so many letters."""
    found = [(p, ()) for p in range(plan[0])]
    for _ in range(length):
        longer = []
        for p, row in found:
            for x in letters_of(plan):
                if (follows(plan, row[-1], x) if row else ends(plan, x)[0] == p):
                    longer.append((p, row + (x,)))
        found = longer
    return found


def about(plan, walk):
    """The walk turned about."""
    end = ends(plan, walk[1][-1])[1] if walk[1] else walk[0]
    return (end, tuple(-1 - x for x in reversed(walk[1])))


def string(plan, walk):
    return min(walk, about(plan, walk))


def strings(plan, length):
    return sorted({string(plan, w) for w in walks(plan, length)})


def points(plan, walk):
    return [walk[0]] + [ends(plan, x)[1] for x in walk[1]]


def is_round(plan, row):
    if not row or not all(follows(plan, row[k - 1], row[k]) for k in range(len(row))):
        return False
    return not any(len(row) % d == 0 and row == row[:d] * (len(row) // d) for d in range(1, len(row)))


def rounds(plan, length):
    """All rounds with so many letters."""
    return [w[1] for w in walks(plan, length) if is_round(plan, w[1])] if length else []


def band(row):
    back = tuple(-1 - x for x in reversed(row))
    return min([row[k:] + row[:k] for k in range(len(row))] + [back[k:] + back[:k] for k in range(len(row))])


def drawn_walk(rng, plan, most=8):
    """A drawn walk with at most so many letters."""
    p = rng.randrange(plan[0])
    row = ()
    for _ in range(rng.randint(0, most)):
        behind = [x for x in letters_of(plan)
                  if (follows(plan, row[-1], x) if row else ends(plan, x)[0] == p)]
        if not behind:
            break
        row += (rng.choice(behind),)
    return (p, row)


def drawn_round(rng, plan, most=8, tries=60):
    """A drawn round with at most so many letters, or None."""
    for _ in range(tries):
        row = drawn_walk(rng, plan, most)[1]
        for k in range(len(row)):
            if is_round(plan, row[k:]):
                return row[k:]
    return None


def raised(call, *told, **named):
    """The error that a call raises, as the pair of its class's name and the tuple of its attributes."""
    try:
        result = call(*told, **named)
    except ValueError as error:
        return (type(error).__name__,) + tuple(vars(error).values())
    return ("nothing raised", result)


def all_tables(prime, many, width):
    for numbers in itertools.product(range(prime), repeat=many * width):
        yield tuple(numbers[k * width:(k + 1) * width] for k in range(many))
