"""[71], [72] Lines, and one member of a full lot exchanged."""

import random
import unittest

from stringrooms import exchanges
from stringrooms.blossoms import long_mark, long_walk, long_ways, short_of
from stringrooms.lots import check_lot, is_full, least_lot, most_lot
from stringrooms.making import makes, over
from stringrooms.maps import is_brick
from stringrooms.peace import sign_of
from stringrooms.pieces import map_number
from tests import naive, naive_lots
from tests.naive import CHAINED, DOUBLE, LINE, POINT, RING, TAILED, TWELVE, raised
from tests.test_blossoms import naive_blossomed


def members(lot):
    return [("string", s) for s in lot[0]] + [("less", p) for p in lot[1]]


def long_of(plan, member):
    return long_walk(plan, member[1]) if member[0] == "string" else long_mark(plan, member[1])


def line(plan, lot, letter, left_out=None):
    """All (number, letters, place) of the long walks and ways that bear a letter, read so that they bear it."""
    found = []
    rows = [(k, long_of(plan, m)[1]) for k, m in enumerate(members(lot)) if k != left_out]
    rows += [(None, way[1]) for way in long_ways(plan)]
    for number, row in rows:
        for read in (row, tuple(-1 - x for x in reversed(row))):
            found += [(number, read, k) for k, x in enumerate(read) if x == letter]
    return found


def is_less(one, other):
    """Whether the first one of a line is less than the other one, where they part behind; the same ahead."""
    told = []
    (_, row, k), (_, others, j) = one, other
    for step in (1, -1):
        steps = 0
        while 0 <= k + steps < len(row) and 0 <= j + steps < len(others) and row[k + steps] == others[j + steps]:
            steps += step
        if 0 <= k + steps < len(row) and 0 <= j + steps < len(others):
            told.append(row[k + steps] >= 0)
            assert (others[j + steps] >= 0) != told[-1]
    assert told and len(set(told)) == 1
    return told[0]


def greatest_one(plan, lot, letter, left_out=None):
    """The greatest of a line: for an arrow read along it, turned about for a letter against."""
    arrow = max(letter, -1 - letter)
    best = None
    for one in line(plan, lot, arrow, left_out):
        if best is None or (best != one and is_less(best, one)):
            best = one
    if letter < 0:
        number, row, k = best
        best = (number, tuple(-1 - x for x in reversed(row)), len(row) - 1 - k)
    return best


def naive_step(plan, lot, number):
    """An exchange, as the document tells it, by plain search."""
    bloom = naive_blossomed(plan)
    value = long_of(plan, members(lot)[number])
    row, points = value[1], naive.points(bloom, value)
    cuts = [k for k, x in enumerate(row) if greatest_one(plan, lot, max(x, -1 - x))[0] == number
            and (greatest_one(plan, lot, x)[1:] == (row, k))]
    first, last = cuts
    piece = row[first + 1:last]
    letters = list(naive.letters_of(bloom))
    if piece:
        ahead = [x for x in letters if naive.follows(bloom, x, piece[0]) and x != row[first]]
        behind = [x for x in letters if naive.follows(bloom, piece[-1], x) and x != row[last]]
    else:
        def nil(one, other):
            """Whether of two letters from one point the one against and the one along make a nought."""
            return one < 0 <= other and (-1 - one, other) in bloom[2] or other < 0 <= one and (-1 - other, one) in bloom[2]
        here = points[first + 1]
        behind = [x for x in letters if naive.ends(bloom, x)[0] == here and nil(x, row[last])]
        ahead = [-1 - x for x in letters if naive.ends(bloom, x)[0] == here and nil(x, -1 - row[first])]
    (ahead,), (behind,) = ahead, behind
    _, left, start = greatest_one(plan, lot, ahead, number)
    _, right, end = greatest_one(plan, lot, behind, number)
    assert left[start + 1:start + 1 + len(piece) + 1] == piece + (row[last],)
    assert right[end - len(piece) - 1:end] == (row[first],) + piece

    def told(letters):
        return short_of(plan, (naive.ends(bloom, letters[0])[0], letters))
    new = told(left[:start + 1] + piece + right[end:])
    rest = [m for k, m in enumerate(members(lot)) if k != number]
    string = naive.string(plan, (points[first + 1], piece))
    return (naive_lots.lot_of(rest + [new]), new, string, -1 if row[first] < 0 else 1,
            tuple(sorted([told(left), told(right)])))


def sign(plan, member):
    if member[0] == "string":
        return sign_of(plan, member[1])
    return tuple(-int(member[1:] == (q,)) for q in range(plan[0]))


def sample(seed, many, most=5, each=2):
    rng = random.Random(seed)
    for plan in naive.plans_for(seed, many, most) + [DOUBLE, TAILED, CHAINED, RING] * 3:
        for _ in range(each):
            yield rng, plan, naive_lots.drawn_lot(rng, plan)


class Lines(unittest.TestCase):
    def test_by_hand(self):
        # At the one point two ways go through; its string bears the new arrows that begin, its mark those that end.
        self.assertEqual(exchanges.greatest(POINT, (((0, ()),), ())), (None, None, 0, 0))
        self.assertEqual(exchanges.greatest(POINT, ((), (0,))), (0, 0, None, None))
        self.assertEqual(exchanges.greatest((1, ((0, 0),), ((0, 0),)), ((), (0,)))[1:], (0, None))

    def test_drawn(self):
        for rng, plan, lot in sample(310, 60, 4, 1):
            bloom = naive_blossomed(plan)
            told = exchanges.greatest(plan, lot)
            self.assertEqual(told, tuple(greatest_one(plan, lot, a)[0] for a in range(len(bloom[1]))))

    def test_two_arrows_for_each_member(self):
        for rng, plan, lot in sample(311, 120):
            told = exchanges.greatest(plan, lot)
            self.assertEqual(len(told), 4 * plan[0] - len(plan[1]))
            self.assertEqual([told.count(k) for k in range(plan[0])], [2] * plan[0])
            self.assertEqual(told.count(None), len(long_ways(plan)))
            for way in long_ways(plan):
                self.assertEqual(sum(told[max(x, -1 - x)] is None for x in way[1]), 1)
            for k, member in enumerate(members(lot)):
                row = long_of(plan, member)[1]
                arrows = [a for a, number in enumerate(told) if number == k]
                self.assertTrue(any(a in row and -1 - b in row for a, b in (arrows, arrows[::-1])))


class Steps(unittest.TestCase):
    def test_by_hand(self):
        self.assertEqual(exchanges.exchange_step(POINT, (((0, ()),), ()), 0),
                         (((), (0,)), ("less", 0), (0, ()), -1, (("way",), ("way",))))
        self.assertEqual(exchanges.exchange_step(POINT, ((), (0,)), 0),
                         ((((0, ()),), ()), ("string", (0, ())), (0, ()), 1, (("way",), ("way",))))
        # The cover of 2 is left out of all covers of the line 0, 1, 2: what comes for it is the place 1 alone.
        most = most_lot(LINE)
        self.assertEqual(exchanges.exchange_step(LINE, most, 2), (
            (((0, (0, 1)), (1, ()), (1, (1,))), ()), ("string", (1, ())), (2, ()), -1,
            (("string", (1, (1,))), ("way",))))
        self.assertEqual(exchanges.exchange(LINE, most, 1), (((0, ()), (0, (0, 1)), (2, ())), ()))
        self.assertEqual(exchanges.exchanges(LINE, most, ()), most)
        cover = (1, (-2, 0))
        longer = (1, (-2, 0, -2, 0))
        self.assertEqual(exchanges.exchange_step(DOUBLE, most_lot(DOUBLE), 0), (
            ((cover, longer), ()), ("string", longer), (1, ()), -1, (("string", cover), ("string", cover))))
        self.assertEqual(exchanges.exchange_step(DOUBLE, most_lot(DOUBLE), 1), (
            (((1, ()),), (0,)), ("less", 0), (0, ()), -1, (("way",), ("way",))))

    def test_against_plain_search(self):
        met = {}
        for rng, plan, lot in sample(312, 120):
            number = rng.randrange(plan[0])
            told = exchanges.exchange_step(plan, lot, number)
            self.assertEqual(told, naive_step(plan, lot, number), (plan, lot, number))
            met[told[1][0], told[3], len(told[2][1]) > 0] = True
            met[told[4][0][0], told[4][1][0]] = True
        self.assertEqual(len(met), 6 + 6, met)

    def test_facts(self):
        for rng, plan, lot in sample(313, 150):
            number = rng.randrange(plan[0])
            new_lot, new, piece, way, sides = exchanges.exchange_step(plan, lot, number)
            old = members(lot)[number]
            self.assertIs(is_full(plan, new_lot), True)
            if all(len(s[1]) <= 60 for s in new_lot[0]):
                self.assertIs(check_lot(plan, new_lot), new_lot)
            self.assertIs(is_brick(plan, piece), True)
            self.assertEqual(sorted(members(new_lot) + [old]), sorted(members(lot) + [new]))
            self.assertNotEqual(new, old)
            both = [[a + b for a, b in zip(sign(plan, one), sign(plan, more))] for one, more in ((old, new), sides)]
            self.assertEqual(both[0], both[1])
            greater, lesser = (lot, new_lot) if way == -1 else (new_lot, lot)
            self.assertIs(over(plan, greater, lesser), True)
            self.assertIs(over(plan, lesser, greater), False)
            self.assertIs(makes(plan, greater, piece), True)
            self.assertFalse(any(map_number(plan, s, piece) for s in lesser[0]))
            # Exchanged again, the old member is back.
            again = exchanges.exchange_step(plan, new_lot, members(new_lot).index(new))
            self.assertEqual(again, (lot, old, piece, -way, sides))
            self.assertEqual(exchanges.exchange(plan, lot, number), new_lot)

    def test_just_one_other_member(self):
        for rng, plan in naive_lots.rng_plans(314, naive_lots.small_ones(314, 80)):
            lot = naive_lots.drawn_lot(rng, plan)
            for number in range(plan[0]):
                rest = [m for k, m in enumerate(members(lot)) if k != number]
                fits = [m for m in naive_lots.members(plan) if m not in rest
                        and all(naive_lots.fits(plan, m, x) for x in rest)]
                new = exchanges.exchange_step(plan, lot, number)[1]
                self.assertEqual(sorted(fits), sorted([members(lot)[number], new]))


class Rows(unittest.TestCase):
    def test_one_after_another(self):
        for rng, plan, lot in sample(315, 60):
            numbers = tuple(rng.randrange(plan[0]) for _ in range(rng.randint(0, 8)))
            told = lot
            for number in numbers:
                told = exchanges.exchange(plan, told, number)
            self.assertEqual(exchanges.exchanges(plan, lot, numbers), told)

    def test_60_exchanges_in_a_row(self):
        for plan in naive_lots.without_bands(316, 30):
            rng = random.Random(316)
            numbers = tuple(rng.randrange(plan[0]) for _ in range(60))
            there = exchanges.exchanges(plan, most_lot(plan), numbers)
            self.assertIs(check_lot(plan, there), there)
            self.assertIs(is_full(plan, there), True)
        self.assertEqual(exchanges.exchanges(POINT, ((), (0,)), (0,) * 60), ((), (0,)))
        self.assertEqual(exchanges.exchanges(POINT, ((), (0,)), (0,) * 59), (((0, ()),), ()))

    def test_400_letters_and_401(self):
        met = {}
        for start, by in ((most_lot, min), (least_lot, min)):
            lot = start(DOUBLE)
            while True:
                lengths = [len(m[1][1]) if m[0] == "string" else -1 for m in members(lot)]
                number = lengths.index(by(lengths))
                told = raised(exchanges.exchange_step, DOUBLE, lot, number)
                if told[0] == "TooGreat":
                    self.assertEqual(told, ("TooGreat", 400))
                    self.assertEqual(raised(exchanges.exchange, DOUBLE, lot, number), ("TooGreat", 400))
                    there, new = exchanges.exchange_step(DOUBLE, lot, 1 - number)[:2]
                    numbers = (1 - number, members(there).index(new), number)
                    self.assertEqual(raised(exchanges.exchanges, DOUBLE, lot, numbers), ("TooGreat", 400))
                    met[start] = max(lengths)
                    self.assertEqual(exchanges.greatest(DOUBLE, lot).count(0), 2)
                    break
                lot = told[1][0]
                if start == least_lot and max(lengths) < 3 and told[1][3] == -1:
                    lot = exchanges.exchange(DOUBLE, lot, 0)
        # All lengths are even: a NEW of 400 letters is told, one of 402 is not.
        self.assertEqual(list(met.values()), [400, 400])

    def test_few(self):
        for plan in (LINE, DOUBLE, TWELVE, CHAINED):
            few = ((), tuple(range(plan[0] - 1)))
            self.assertEqual(raised(exchanges.greatest, plan, few), ("NotLot", "few"))
            self.assertEqual(raised(exchanges.exchange_step, plan, few, 0), ("NotLot", "few"))
            self.assertEqual(raised(exchanges.exchange, plan, few, 0), ("NotLot", "few"))
            for numbers in ((), (0,), (0,) * 60):
                self.assertEqual(raised(exchanges.exchanges, plan, few, numbers), ("NotLot", "few"))


if __name__ == "__main__":
    unittest.main()
