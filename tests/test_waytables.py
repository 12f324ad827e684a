"""[88], [89] Tables of ways and of rows of noughts."""

import itertools
import math
import random
import unittest

from stringrooms import waytables
from stringrooms.helping import solved_whole
from stringrooms.ways import nought_rounds, ways_between
from tests import naive
from tests.naive import DOUBLE, FORK, LINE, LINE_NOUGHT, LOOP, POINT, RING, raised
from tests.test_farrests import LONG, MEETING

TWO_RING = (2, ((0, 1), (1, 0)), ((0, 1), (1, 0)))


def rows_of(plan, steps, noughts):
    """How many rows of so many arrows lead from point to point, each pair a nought or none, by going on arrow by arrow."""
    table = [[0] * plan[0] for _ in range(plan[0])]
    if steps == 0:
        return tuple(tuple(int(p == q) for q in range(plan[0])) for p in range(plan[0]))
    rows = [(a,) for a in range(len(plan[1]))]
    for _ in range(steps - 1):
        rows = [row + (b,) for row in rows for b in range(len(plan[1]))
                if plan[1][row[-1]][1] == plan[1][b][0] and ((row[-1], b) in plan[2]) == noughts]
    for row in rows:
        table[plan[1][row[0]][0]][plan[1][row[-1]][1]] += 1
    return tuple(map(tuple, table))


def product(one, other):
    return [[sum(a * b for a, b in zip(row, column)) for column in zip(*other)] for row in one]


def determinant(table):
    """The determinant, by all rows of places."""
    told = 0
    for order in itertools.permutations(range(len(table))):
        sign = (-1) ** sum(order[i] > order[j] for i in range(len(order)) for j in range(i + 1, len(order)))
        told += sign * math.prod(table[k][p] for k, p in enumerate(order))
    return told


def sample(seed, many, most=6):
    return naive.plans_for(seed, many, most) + [RING, MEETING, LONG, TWO_RING, naive.FULL]


class Tables(unittest.TestCase):
    def test_by_hand(self):
        self.assertEqual(waytables.way_table(POINT), ((1,),))
        self.assertEqual(waytables.way_table(LOOP), ((2,),))
        self.assertEqual(waytables.way_table(LINE), ((1, 1, 1), (0, 1, 1), (0, 0, 1)))
        self.assertEqual(waytables.way_table(LINE_NOUGHT), ((1, 1, 0), (0, 1, 1), (0, 0, 1)))
        self.assertEqual(waytables.way_table(DOUBLE), ((1, 2), (0, 1)))
        self.assertEqual(waytables.way_table(FORK), ((1, 1, 0), (0, 1, 0), (0, 1, 1)))
        self.assertEqual(waytables.ways_of_length(LINE, 2), ((0, 0, 1), (0, 0, 0), (0, 0, 0)))
        self.assertEqual(waytables.ways_of_length(LOOP, 1), ((1,),))
        self.assertEqual(waytables.ways_of_length(LOOP, 10 ** 30), ((0,),))
        self.assertEqual(waytables.nothings_of_length(LOOP, 10 ** 30), ((1,),))
        self.assertEqual(waytables.nothings_of_length(LINE_NOUGHT, 2), ((0, 0, 1), (0, 0, 0), (0, 0, 0)))
        self.assertEqual(waytables.nothings_of_length(RING, 10 ** 30), ((0, 1, 0), (0, 0, 1), (1, 0, 0)))
        for call in (waytables.ways_of_length, waytables.nothings_of_length):
            self.assertEqual(call(LINE, 0), ((1, 0, 0), (0, 1, 0), (0, 0, 1)))

    def test_drawn(self):
        for plan in sample(380, 150):
            told = waytables.way_table(plan)
            size = range(plan[0])
            self.assertEqual(told, tuple(tuple(len(ways_between(plan, p, q)) for q in size) for p in size))
            lengths = [waytables.ways_of_length(plan, n) for n in range(26)]
            self.assertEqual(told, tuple(tuple(sum(t[p][q] for t in lengths) for q in size) for p in size))
            for steps in range(6):
                self.assertEqual(lengths[steps], rows_of(plan, steps, False))
                self.assertEqual(waytables.nothings_of_length(plan, steps), rows_of(plan, steps, True))
            self.assertEqual(waytables.ways_of_length(plan, 10 ** 30), tuple((0,) * plan[0] for _ in size))

    def test_great_steps(self):
        for plan in sample(381, 100):
            period = math.lcm(1, *map(len, nought_rounds(plan)))
            for steps in (10 ** 12 + 7, 10 ** 30 - 1, 10 ** 30):
                near = 24 + (steps - 24) % period
                self.assertEqual(waytables.nothings_of_length(plan, steps), waytables.nothings_of_length(plan, near))
        self.assertEqual(waytables.nothings_of_length(MEETING, 6 * 10 ** 20), rows_of(MEETING, 6, True))
        self.assertEqual(waytables.nothings_of_length(MEETING, 6 * 10 ** 20 + 5), rows_of(MEETING, 5, True))

    def test_fact_of_products(self):
        for plan in sample(382, 100):
            ways = [waytables.ways_of_length(plan, n) for n in range(7)]
            nothings = [waytables.nothings_of_length(plan, n) for n in range(7)]
            for n in range(1, 7):
                total = [[0] * plan[0] for _ in range(plan[0])]
                for i in range(n + 1):
                    for p, row in enumerate(product(ways[i], nothings[n - i])):
                        for q, x in enumerate(row):
                            total[p][q] += (-1) ** (n - i) * x
                self.assertFalse(any(map(any, total)))


class Undone(unittest.TestCase):
    def test_by_hand(self):
        self.assertEqual(waytables.way_determinant(LINE), 1)
        self.assertEqual(waytables.way_determinant(LOOP), 2)
        self.assertEqual(waytables.way_determinant(RING), 2)
        self.assertEqual(waytables.way_determinant(TWO_RING), 0)
        self.assertEqual(waytables.undone_ways(LINE), (((1, -1, 0), (0, 1, -1), (0, 0, 1)), 1))
        self.assertEqual(waytables.undone_ways(LINE_NOUGHT), (((1, -1, 1), (0, 1, -1), (0, 0, 1)), 1))
        self.assertEqual(waytables.undone_ways(LOOP), (((1,),), 2))
        self.assertEqual(waytables.undone_ways(RING), (((1, -1, 1), (1, 1, -1), (-1, 1, 1)), 2))
        self.assertEqual(raised(waytables.undone_ways, TWO_RING), ("NoWay",))

    def test_drawn(self):
        met = {}
        for plan in sample(383, 400) + naive.drawn_plans(384, 30, 12, 8):
            table, told = waytables.way_table(plan), waytables.way_determinant(plan)
            if plan[0] <= 5:
                self.assertEqual(told, determinant(table))
            rounds = nought_rounds(plan)
            self.assertEqual(told, 0 if any(len(row) % 2 == 0 for row in rounds) else 2 ** len(rounds))
            met[told] = met.get(told, 0) + 1
            if told == 0:
                self.assertEqual(raised(waytables.undone_ways, plan), ("NoWay",))
                continue
            rows, below = waytables.undone_ways(plan)
            self.assertEqual(below, 2 if rounds else 1)
            plain = [[below * int(p == q) for q in range(plan[0])] for p in range(plan[0])]
            self.assertEqual(product(rows, table), plain)
            self.assertEqual(product(table, rows), plain)
            self.assertEqual(math.gcd(below, *[x for row in rows for x in row]), 1)
        self.assertTrue({0, 1, 2, 4} <= set(met), met)

    def test_without_rounds_rows_of_noughts_undo_it(self):
        for plan in sample(385, 100):
            if not nought_rounds(plan):
                told = [[0] * plan[0] for _ in range(plan[0])]
                for n in range(25):
                    for p, row in enumerate(waytables.nothings_of_length(plan, n)):
                        for q, x in enumerate(row):
                            told[p][q] += (-1) ** n * x
                self.assertEqual(waytables.undone_ways(plan), (tuple(map(tuple, told)), 1))

    def test_whole_numbers(self):
        rng = random.Random(386)
        for _ in range(200):
            size = rng.randint(1, 6)
            table = [[rng.choice((0, 0, 1, -1, rng.randint(-10 ** 20, 10 ** 20))) for _ in range(size)]
                     for _ in range(size)]
            goals = [[rng.randint(-9, 9) for _ in range(2)] for _ in range(size)]
            whole, told = solved_whole(table, goals)
            self.assertEqual(whole, determinant(table))
            if whole:
                self.assertEqual(product(table, told), [[whole * x for x in row] for row in goals])
            else:
                self.assertEqual(told, ())


if __name__ == "__main__":
    unittest.main()
