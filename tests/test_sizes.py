"""[106] Strings, bands and rooms by their units."""

import itertools
import random
import unittest

from stringrooms import sizes
from tests import naive
from tests.naive import CHAINED, DOUBLE, LINE, LINE_NOUGHT, LOOP, POINT, RING, TAILED, TWELVE, raised

# Plans with endlessly many bands, some as long as others written twice, and one with a band of four letters alone.
LOOPS = (2, ((0, 0), (0, 1), (1, 1)), ((0, 0), (2, 2)))
TURNING = (3, ((0, 1), (1, 0), (1, 2), (2, 0), (0, 2)), ((0, 2), (1, 0), (3, 4), (4, 3)))
SQUARE = (4, ((0, 1), (0, 2), (1, 3), (2, 3)), ())


def units_of(plan, points):
    return tuple(points.count(p) for p in range(plan[0]))


def strings_by(plan, units):
    if not any(units):
        return ()
    return tuple(s for s in naive.strings(plan, sum(units) - 1) if units_of(plan, naive.points(plan, s)) == units)


def bands_by(plan, units):
    found = set()
    for length in range(1, sum(units) + 1):
        for row in naive.rounds(plan, length):
            own = units_of(plan, [naive.ends(plan, x)[0] for x in row])
            for n in range(1, sum(units) + 1):
                if tuple(n * x for x in own) == units:
                    found.add((naive.band(row), n))
    return tuple(sorted(found))


def classes(prime, many):
    """The coefficient of y^N in the product over K of (1 - y^K) / (1 - P y^K)."""
    row = [1] + [0] * many
    for k in range(1, many + 1):
        row = [row[i] - (row[i - k] if i >= k else 0) for i in range(many + 1)]
        for i in range(k, many + 1):
            row[i] += prime * row[i - k]
    return row[many]


def classes_by_tables(prime, many):
    """How many tables can be undone, up to a change of units, by trying all."""
    from stringrooms.tables import divisors
    from tests.naive_rooms import rank
    return len({divisors(t, prime) for t in naive.all_tables(prime, many, many) if rank(prime, t) == many})


def number_by(plan, prime, units):
    """The number of rooms, by multiplying a series for each string and each band."""
    parts = []
    for own in itertools.product(*[range(u + 1) for u in units]):
        if any(own):
            parts += [(own, 0)] * len(strings_by(plan, own))
            parts += [(own, prime) for _, n in bands_by(plan, own) if n == 1]
    told = {(0,) * plan[0]: 1}
    for own, kind in parts:
        new = {}
        for taken, number in told.items():
            for n in range(max(units) + 1):
                key = tuple(a + n * b for a, b in zip(taken, own))
                if all(a <= b for a, b in zip(key, units)):
                    new[key] = new.get(key, 0) + number * (classes(kind, n) if kind else 1)
        told = new
    return told[units] if units in told else 0


def drawn_units(rng, plan, most, each=3):
    while True:
        units = tuple(rng.randint(0, each) for _ in range(plan[0]))
        if sum(units) <= most:
            return units


def sample(seed, many, most, times=3):
    rng = random.Random(seed)
    for plan in naive.plans_for(seed, many, 4) + [RING, TAILED, CHAINED, DOUBLE, LOOP] * 3:
        if plan[0] <= 6:
            for _ in range(times):
                yield rng, plan, drawn_units(rng, plan, most)


class Strings(unittest.TestCase):
    def test_by_hand(self):
        self.assertEqual(sizes.strings_of(POINT, (1,)), ((0, ()),))
        self.assertEqual(sizes.strings_of(POINT, (0,)), ())
        self.assertEqual(sizes.strings_of(POINT, (2,)), ())
        self.assertEqual(sizes.strings_of(LOOP, (2,)), ((0, (-1,)),))
        self.assertEqual(sizes.strings_of(LINE, (1, 1, 1)), ((0, (0, 1)),))
        self.assertEqual(sizes.strings_of(LINE, (1, 0, 1)), ())
        self.assertEqual(sizes.strings_of(LINE_NOUGHT, (1, 1, 1)), ())
        self.assertEqual(sizes.strings_of(DOUBLE, (1, 1)), ((0, (0,)), (0, (1,))))
        self.assertEqual(sizes.strings_of(DOUBLE, (1, 2)), ((1, (-2, 0)),))
        self.assertEqual(sizes.strings_of(DOUBLE, (5, 5)), ((0, (0, -2) * 4 + (0,)), (0, (1, -1) * 4 + (1,))))
        self.assertEqual(sizes.strings_of(DOUBLE, (6, 4)), ())

    def test_drawn(self):
        met = {}
        for rng, plan, units in sample(510, 120, 7):
            told = sizes.strings_of(plan, units)
            self.assertEqual(told, strings_by(plan, units))
            met[min(len(told), 3)] = met.get(min(len(told), 3), 0) + 1
        self.assertEqual(set(met), {0, 1, 2, 3}, met)

    def test_ten_units(self):
        for plan in (naive.FULL, naive.GREAT, naive.WIDE, TWELVE):
            units = (1,) * 10 + (0,) * (plan[0] - 10) if plan[0] >= 10 else (2, 2) + (1,) * (plan[0] - 2)
            for string in sizes.strings_of(plan, units):
                self.assertEqual(units_of(plan, naive.points(plan, string)), units)
                self.assertEqual(naive.string(plan, string), string)


class Bands(unittest.TestCase):
    def test_by_hand(self):
        self.assertEqual(sizes.bands_of(POINT, (1,)), ())
        self.assertEqual(sizes.bands_of(DOUBLE, (0, 0)), ())
        self.assertEqual(sizes.bands_of(DOUBLE, (1, 1)), (((-2, 0), 1),))
        self.assertEqual(sizes.bands_of(DOUBLE, (5, 5)), (((-2, 0), 5),))
        self.assertEqual(sizes.bands_of(DOUBLE, (2, 3)), ())
        self.assertEqual(sizes.bands_of(TAILED, (0, 2, 2, 0)), (((-3, 1), 2),))
        self.assertEqual(sizes.bands_of(TAILED, (1, 2, 2, 0)), ())
        self.assertEqual(sizes.bands_of(CHAINED, (1, 1, 0, 0)), (((-2, 0), 1),))
        self.assertEqual(sizes.bands_of(CHAINED, (0, 0, 1, 1)), (((-5, 3), 1),))

    def test_drawn(self):
        met = {}
        for rng, plan, units in sample(511, 120, 8):
            if rng.random() < 0.5:
                row = naive.drawn_round(rng, plan, 6)
                if row:
                    n = rng.randint(1, 2)
                    units = tuple(n * x for x in units_of(plan, [naive.ends(plan, x)[0] for x in row]))
            if sum(units) <= 9:
                told = sizes.bands_of(plan, units)
                self.assertEqual(told, bands_by(plan, units), (plan, units))
                for _, n in told:
                    met[n] = met.get(n, 0) + 1
        self.assertTrue({1, 2} <= set(met), met)


class Numbers(unittest.TestCase):
    def test_by_hand(self):
        self.assertEqual(sizes.room_number(POINT, 2, (0,)), 1)
        self.assertEqual(sizes.room_number(POINT, 7, (10,)), 1)
        self.assertEqual(sizes.room_number(LOOP, 3, (10,)), 6)
        self.assertEqual(sizes.room_number(LINE, 5, (1, 1, 1)), 4)
        self.assertEqual(sizes.room_number(LINE_NOUGHT, 5, (1, 1, 1)), 3)
        # Two points, an arrow on its own, each of the two strings, and as many bands as there are numbers but 0.
        for prime in naive.PRIMES:
            self.assertEqual(sizes.room_number(DOUBLE, prime, (1, 1)), 1 + 2 + prime - 1)

    def test_classes(self):
        for prime, many in ((2, 1), (2, 2), (2, 3), (3, 1), (3, 2), (5, 1), (5, 2), (7, 1), (7, 2)):
            self.assertEqual(classes(prime, many), classes_by_tables(prime, many))

    def test_drawn(self):
        great = 0
        for rng, plan, units in sample(512, 80, 6):
            prime = rng.choice(naive.PRIMES)
            told = sizes.room_number(plan, prime, units)
            self.assertEqual(told, number_by(plan, prime, units), (plan, prime, units))
            great += told > 10
        self.assertGreater(great, 10)
        for units in ((4, 4), (5, 5), (3, 6)):
            self.assertEqual(sizes.room_number(DOUBLE, 3, units), number_by(DOUBLE, 3, units))

    def test_many_bands(self):
        for plan, units, many in ((LOOPS, (2, 2), 2), (LOOPS, (4, 4), 5), (TURNING, (2, 2, 2), 3), (TURNING, (3, 3, 3), 4),
                                  (SQUARE, (1, 1, 1, 1), 1), (SQUARE, (2, 2, 2, 2), 1), (SQUARE, (2, 2, 3, 2), 0)):
            bands = sizes.bands_of(plan, units)
            self.assertEqual(bands, bands_by(plan, units))
            self.assertEqual(len(bands), many)
            self.assertEqual(sizes.strings_of(plan, units), strings_by(plan, units))
            for prime in (2, 7):
                self.assertEqual(sizes.room_number(plan, prime, units), number_by(plan, prime, units))

    def test_bound(self):
        # One more unit at each point has some seven times as many rooms: the bound lies between two of these numbers.
        numbers = [raised(sizes.room_number, DOUBLE, 7, (n, n)) for n in range(16, 23)]
        told = [row[1] for row in numbers if row[0] == "nothing raised"]
        self.assertEqual(told, sorted(told))
        self.assertLessEqual(told[-1], 10 ** 18)
        self.assertGreater(told[-1] * 8, 10 ** 18)
        self.assertEqual(numbers[len(told):], [("TooGreat", 10 ** 18)] * (len(numbers) - len(told)))
        self.assertTrue(0 < len(told) < len(numbers))


if __name__ == "__main__":
    unittest.main()
