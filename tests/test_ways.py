"""[16], [17] Ways, and rows of noughts."""

import unittest

from stringrooms import ways
from stringrooms.walks import end_of
from tests import naive
from tests.naive import raised


def all_ways(plan):
    """All ways, by putting arrows behind one another."""
    found = [(p, ()) for p in range(plan[0])]
    rows = [(a,) for a in range(len(plan[1]))]
    while rows:
        found += [(plan[1][row[0]][0], row) for row in rows]
        rows = [row + (b,) for row in rows for b in range(len(plan[1]))
                if naive.follows(plan, row[-1], b)]
    return found


class Ways(unittest.TestCase):
    def test_by_hand(self):
        plan = naive.CHAINED
        self.assertEqual(ways.ways_from(plan, 0), ((0, ()), (0, (0,)), (0, (0, 2)), (0, (0, 2, 3)), (0, (1,))))
        self.assertEqual(ways.ways_into(plan, 3), ((0, (0, 2, 3)), (1, (2, 3)), (2, (3,)), (2, (4,)), (3, ())))
        self.assertEqual(ways.ways_between(plan, 0, 1), ((0, (0,)), (0, (1,))))
        self.assertEqual(ways.ways_between(plan, 1, 0), ())
        self.assertEqual(ways.ways_between(naive.LOOP, 0, 0), ((0, ()), (0, (0,))))
        self.assertEqual(ways.way_number(plan), 12)
        self.assertEqual(ways.longest_from(plan, 0), (0, (0, 2, 3)))
        self.assertEqual(ways.longest_from(plan, 4), (2, (4,)))
        self.assertEqual(ways.way_number(naive.TWELVE), 12)
        self.assertEqual(len(ways.longest_from(naive.FULL, 23 - 12 + 5)[1]) <= 23, True)
        self.assertEqual(max(len(ways.longest_from(naive.FULL, a)[1]) for a in range(23)), 23)

    def test_against_all_ways(self):
        for plan in naive.plans_for(30, 80) + [naive.FULL]:
            every = all_ways(plan)
            self.assertEqual(ways.way_number(plan), len(every))
            for p in range(plan[0]):
                told = ways.ways_from(plan, p)
                self.assertEqual(sorted(told), sorted(w for w in every if w[0] == p))
                self.assertEqual(list(told), sorted(told, key=lambda w: (w[1][:1], len(w[1]))))
                into = ways.ways_into(plan, p)
                self.assertEqual(list(into), sorted(w for w in every if end_of(plan, w) == p))
                for q in range(plan[0]):
                    self.assertEqual(ways.ways_between(plan, p, q), tuple(w for w in told if end_of(plan, w) == q))
            for a in range(len(plan[1])):
                longest = max((w for w in every if w[1][:1] == (a,)), key=lambda w: len(w[1]))
                self.assertEqual(ways.longest_from(plan, a), longest)

    def test_is_way(self):
        for plan in naive.plans_for(31, 20, 4):
            every = set(all_ways(plan))
            for length in range(5):
                for walk in naive.walks(plan, length):
                    self.assertIs(ways.is_way(plan, walk), walk in every)

    def test_way_behind(self):
        plan = naive.CHAINED
        self.assertEqual(ways.way_behind(plan, (0, (0,)), (1, (2, 3))), (0, (0, 2, 3)))
        self.assertIsNone(ways.way_behind(plan, (0, (1,)), (1, (2, 3))))
        self.assertEqual(ways.way_behind(plan, (0, (1,)), (1, ())), (0, (1,)))
        self.assertEqual(ways.way_behind(plan, (1, ()), (1, (2,))), (1, (2,)))
        self.assertEqual(raised(ways.way_behind, plan, (0, (1,)), (2, (3,))), ("Unlike",))
        self.assertEqual(raised(ways.way_behind, plan, (1, (-1,)), (3, ())), ("NoWay",))
        self.assertEqual(raised(ways.way_behind, plan, (3, ()), (1, (-1,))), ("NoWay",))
        self.assertIsNone(ways.way_behind(naive.LOOP, (0, (0,)), (0, (0,))))
        for plan in naive.plans_for(32, 20):
            every = all_ways(plan)
            for one in every:
                for other in every:
                    if end_of(plan, one) != other[0]:
                        self.assertEqual(raised(ways.way_behind, plan, one, other), ("Unlike",))
                    else:
                        both = (one[0], one[1] + other[1])
                        self.assertEqual(ways.way_behind(plan, one, other), both if both in every else None)


class Noughts(unittest.TestCase):
    def test_by_hand(self):
        self.assertEqual(ways.nil_row(naive.RING, 1), (1, 2, 0))
        self.assertEqual(ways.nil_row(naive.LOOP, 0), (0,))
        self.assertEqual(ways.nil_row(naive.CHAINED, 1), (1, 2, 4))
        self.assertEqual(ways.nil_row(naive.CHAINED, 0), (0,))
        self.assertEqual(ways.nought_rounds(naive.RING), ((0, 1, 2),))
        self.assertEqual(ways.nought_rounds(naive.LOOP), ((0,),))
        self.assertEqual(ways.nought_rounds(naive.CHAINED), ())
        two = (4, ((3, 3), (0, 1), (2, 0), (1, 2)), ((0, 0), (1, 3), (2, 1), (3, 2)))
        self.assertEqual(ways.nought_rounds(two), ((0,), (1, 3, 2)))

    def test_against_all_rows(self):
        met = 0
        for plan in naive.plans_for(33, 300, 4):
            noughts = set(plan[2])
            rounds = []
            rows = [(a,) for a in range(len(plan[1]))]
            while rows:
                rounds += [row for row in rows if row[0] == min(row) and (row[-1], row[0]) in noughts]
                rows = [row + (b,) for row in rows for b in range(len(plan[1]))
                        if (row[-1], b) in noughts and b not in row]
            self.assertEqual(ways.nought_rounds(plan), tuple(sorted(rounds)))
            met += bool(rounds)
            for a in range(len(plan[1])):
                row = ways.nil_row(plan, a)
                self.assertEqual(row[0], a)
                self.assertEqual(len(set(row)), len(row))
                self.assertTrue(all(pair in noughts for pair in zip(row, row[1:])))
                self.assertFalse([b for b in range(len(plan[1])) if (row[-1], b) in noughts and b not in row])
        self.assertGreater(met, 20)


if __name__ == "__main__":
    unittest.main()
