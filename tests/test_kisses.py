"""[68] Kisses of long walks."""

import random
import unittest

from stringrooms import kisses
from stringrooms.blossoms import long_mark, long_walk, long_ways
from stringrooms.peace import stops
from stringrooms.walks import sizes_of
from tests import naive
from tests.naive import CHAINED, DOUBLE, LINE, LOOP, POINT, TAILED
from tests.test_blossoms import drawn_long, naive_blossomed


def naive_kisses(plan, value, other):
    bloom = naive_blossomed(plan)
    points, lying = naive.points(bloom, value), naive.points(bloom, other)
    one, two = value[1], other[1]
    found = []
    for i in range(1, len(one)):
        for j in range(i, len(one)):
            if one[i - 1] < 0 <= one[j]:
                for k in range(1, len(two)):
                    m = k + j - i
                    if m < len(two) and two[m] < 0 <= two[k - 1]:
                        if points[i] == lying[k] and one[i:j] == two[k:m]:
                            found.append((i, j, k, m, 1))
                        elif i < j and one[i:j] == tuple(-1 - x for x in reversed(two[k:m])):
                            found.append((i, j, k, m, -1))
    return tuple(sorted(found))


class Kisses(unittest.TestCase):
    def test_by_hand(self):
        string, mark = long_walk(POINT, (0, ())), long_mark(POINT, 0)
        self.assertEqual(kisses.kissing(POINT, string, mark), ((1, 1, 1, 1, 1),))
        self.assertEqual(kisses.kisses(POINT, string, mark), 1)
        self.assertEqual(kisses.kissing(POINT, mark, string), ())
        self.assertEqual(kisses.kissing(POINT, string, string), ())
        one, two = long_walk(LINE, (0, ())), long_walk(LINE, (1, ()))
        self.assertEqual([kisses.kisses(LINE, a, b) for a in (one, two) for b in (one, two)], [0, 0, 1, 0])
        loop = long_walk(LOOP, (0, ()))
        self.assertEqual(kisses.kisses(LOOP, loop, loop), 1)

    def test_drawn(self):
        rng = random.Random(280)
        met = {}
        for plan in naive.plans_for(280, 100, 5) + [DOUBLE, TAILED, CHAINED] * 5:
            for _ in range(6):
                value, other = drawn_long(rng, plan, 30), drawn_long(rng, plan, 30)
                told = kisses.kissing(plan, value, other)
                self.assertEqual(told, naive_kisses(plan, value, other))
                self.assertEqual(kisses.kisses(plan, value, other), len(told))
                bloom = naive_blossomed(plan)
                # Places are told for the long walks as they are passed.
                last = len(value[1])
                about = kisses.kissing(plan, naive.about(bloom, value), other)
                self.assertEqual(sorted((last - j, last - i, k, m, 1 if i == j else -way) for i, j, k, m, way in about),
                                 list(told))
                for kiss in told:
                    met[kiss[4], kiss[0] == kiss[1]] = met.get((kiss[4], kiss[0] == kiss[1]), 0) + 1
        self.assertEqual(set(met), {(1, True), (1, False), (-1, False)})

    def test_facts(self):
        rng = random.Random(281)
        met = 0
        for plan in naive.plans_for(281, 100, 5) + [naive.FULL]:
            walks = [naive.drawn_walk(rng, plan, 7) for _ in range(4)]
            marks = [long_mark(plan, p) for p in range(plan[0])]
            ways = long_ways(plan)
            for x in walks:
                value = long_walk(plan, x)
                for w in walks:
                    told = kisses.kisses(plan, value, long_walk(plan, w))
                    self.assertEqual(told, stops(plan, x, w))
                    met += told > 0
                for p, mark in enumerate(marks):
                    self.assertEqual(kisses.kisses(plan, value, mark), sizes_of(plan, x)[p])
                    self.assertEqual(kisses.kisses(plan, mark, value), 0)
                for way in ways:
                    self.assertEqual(kisses.kisses(plan, value, way), 0)
                    self.assertEqual(kisses.kisses(plan, way, value), 0)
            for mark in marks:
                for other in marks + list(ways):
                    self.assertEqual(kisses.kisses(plan, mark, other), 0)
                    self.assertEqual(kisses.kisses(plan, other, mark), 0)
        self.assertGreater(met, 100)

    def test_long_ones(self):
        rng = random.Random(282)
        for plan in (DOUBLE, TAILED, CHAINED):
            value = long_walk(plan, naive.drawn_walk(rng, plan, 200))
            other = long_walk(plan, naive.drawn_walk(rng, plan, 60))
            self.assertEqual(kisses.kissing(plan, value, other), naive_kisses(plan, value, other))


if __name__ == "__main__":
    unittest.main()
