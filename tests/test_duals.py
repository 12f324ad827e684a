"""[102] Exchanged plans and rows of noughts."""

import unittest

from stringrooms import duals
from stringrooms.plans import check_plan, turned_plan
from stringrooms.waytables import ways_of_length, undone_ways
from stringrooms.ways import nought_rounds
from tests import naive
from tests.naive import CHAINED, DOUBLE, FORK, LINE, LINE_NOUGHT, LOOP, POINT, RING, TAILED, TWELVE, raised
from tests.test_farrests import BOTH, LONG, MEETING
from tests.test_threads import THROUGH, rows
from tests.test_waytables import TWO_RING

# Round rows of arrows of which some make noughts: no round row of noughts.
TURNS = (3, ((0, 1), (1, 2), (2, 0)), ((0, 1), (2, 0)))


def sample(seed, many):
    return naive.plans_for(seed, many) + [TURNS, RING, MEETING, BOTH, LONG, TWO_RING, THROUGH, naive.FULL, naive.GREAT]


class Exchanged(unittest.TestCase):
    def test_by_hand(self):
        self.assertEqual(duals.exchanged(POINT), POINT)
        self.assertEqual(duals.exchanged(TWELVE), TWELVE)
        self.assertEqual(duals.exchanged(LINE), (3, ((1, 0), (2, 1)), ((1, 0),)))
        self.assertEqual(duals.exchanged(LINE_NOUGHT), (3, ((1, 0), (2, 1)), ()))
        self.assertEqual(duals.exchanged(DOUBLE), (2, ((1, 0), (1, 0)), ()))
        self.assertEqual(duals.exchanged(FORK), (3, ((1, 0), (1, 2)), ()))
        self.assertEqual(duals.exchanged(TAILED), (4, ((1, 0), (2, 1), (2, 1), (3, 2)), ((2, 0), (3, 1))))
        self.assertEqual(duals.exchanged(TURNS), (3, ((1, 0), (2, 1), (0, 2)), ((2, 1),)))
        for plan in (LOOP, RING, BOTH, MEETING):
            self.assertEqual(raised(duals.exchanged, plan), ("Endless",))

    def test_drawn(self):
        met = {}
        for plan in sample(470, 200):
            told = raised(duals.exchanged, plan)
            self.assertEqual(told == ("Endless",), bool(nought_rounds(plan)))
            met[told[0]] = met.get(told[0], 0) + 1
            if told[0] == "Endless":
                continue
            other = told[1]
            self.assertEqual(check_plan(other), other)
            self.assertEqual((other[0], other[1]), turned_plan(plan)[:2])
            for a, (_, p) in enumerate(plan[1]):
                for b, (q, _) in enumerate(plan[1]):
                    self.assertEqual((b, a) in other[2], p == q and (a, b) not in plan[2])
            self.assertEqual(duals.exchanged(other), plan)
        self.assertGreater(min(met.values()), 30)


class Rows(unittest.TestCase):
    def test_by_hand(self):
        self.assertEqual(duals.nought_ways(POINT, 0, 0), (1,))
        self.assertEqual(duals.nought_ways(TWELVE, 3, 4), (0,))
        self.assertEqual(duals.nought_ways(LINE, 0, 1), (0, 1))
        self.assertEqual(duals.nought_ways(LINE, 0, 2), (0, 0))
        self.assertEqual(duals.nought_ways(LINE_NOUGHT, 0, 2), (0, 0, 1))
        self.assertEqual(duals.nought_ways(LINE_NOUGHT, 0, 0), (1, 0, 0))
        self.assertEqual(duals.nought_ways(DOUBLE, 0, 1), (0, 2))
        # A row of noughts that comes back to the point at which it begins, but is no round one.
        self.assertEqual(duals.nought_ways(TURNS, 0, 2), (0, 0, 1, 0))
        self.assertEqual(duals.nought_ways(TURNS, 2, 2), (1, 0, 0, 1))
        self.assertEqual(duals.signed_ways(LINE), ((1, -1, 0), (0, 1, -1), (0, 0, 1)))
        self.assertEqual(duals.signed_ways(LINE_NOUGHT), ((1, -1, 1), (0, 1, -1), (0, 0, 1)))
        self.assertEqual(duals.signed_ways(DOUBLE), ((1, -2), (0, 1)))
        self.assertEqual(duals.signed_ways(TURNS), ((1, -1, 1), (0, 1, -1), (-1, 1, 0)))
        for plan in (LOOP, RING, BOTH):
            self.assertEqual(raised(duals.nought_ways, plan, 0, 0), ("Endless",))
            self.assertEqual(raised(duals.signed_ways, plan), ("Endless",))

    def test_drawn(self):
        met = set()
        for plan in sample(471, 150):
            if nought_rounds(plan):
                self.assertEqual(raised(duals.nought_ways, plan, 0, plan[0] - 1), ("Endless",))
                self.assertEqual(raised(duals.signed_ways, plan), ("Endless",))
                continue
            every = rows(plan, True)
            most = max(map(len, every), default=0)
            met.add(most)
            signed = duals.signed_ways(plan)
            for p in range(plan[0]):
                for q in range(plan[0]):
                    lengths = [len(r) for r in every if plan[1][r[0]][0] == p and plan[1][r[-1]][1] == q]
                    told = tuple([int(p == q)] + [lengths.count(n) for n in range(1, most + 1)])
                    self.assertEqual(duals.nought_ways(plan, p, q), told)
                    self.assertEqual(signed[p][q], sum((-1) ** n * x for n, x in enumerate(told)))
            self.assertEqual(undone_ways(plan), (signed, 1))
        self.assertTrue({0, 1, 2, 3, 4} <= met, met)

    def test_ways_of_exchanged_plans(self):
        for plan in sample(472, 60):
            if not nought_rounds(plan):
                other = duals.exchanged(plan)
                many = len(duals.nought_ways(plan, 0, 0))
                tables = [ways_of_length(other, n) for n in range(many + 1)]
                for p in range(plan[0]):
                    for q in range(plan[0]):
                        self.assertEqual(duals.nought_ways(plan, p, q), tuple(t[q][p] for t in tables[:-1]))
                self.assertFalse(any(map(any, tables[-1])))


if __name__ == "__main__":
    unittest.main()
