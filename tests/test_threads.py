"""[92] to [95] Sides, threads, holes, the genus."""

import unittest

from stringrooms import threads
from stringrooms.forms import parts_of
from stringrooms.waypolynomials import way_polynomial
from stringrooms.waytables import way_table
from stringrooms.ways import nought_rounds, ways_from
from tests import naive
from tests.naive import CHAINED, DOUBLE, FORK, LINE, LINE_NOUGHT, LOOP, POINT, RING, TAILED, TWELVE
from tests.test_farrests import LONG, MEETING
from tests.test_waytables import TWO_RING, determinant

# One point with two loops, each the next one of the other one, is no plan; this one has a loop and goes through it.
THROUGH = (3, ((0, 1), (1, 1), (1, 2)), ((0, 2), (1, 1)))


def sample(seed, many, most=6):
    return (naive.plans_for(seed, many, most) + [RING, MEETING, LONG, TWO_RING, THROUGH, naive.FULL, naive.GREAT]
            + naive.drawn_plans(seed + 1, 30, 12, 7))


def rows(plan, noughts):
    """All rows of arrows, at least one, each pair a nought or each pair none, none twice."""
    found, row = [], [(a,) for a in range(len(plan[1]))]
    while row:
        found += row
        row = [r + (b,) for r in row for b in range(len(plan[1])) if b not in r
               and plan[1][r[-1]][1] == plan[1][b][0] and ((r[-1], b) in plan[2]) == noughts]
    return found


def longest_rows(plan, noughts):
    """Those rows that no arrow makes longer, at neither end."""
    def goes(a, b):
        return plan[1][a][1] == plan[1][b][0] and ((a, b) in plan[2]) == noughts
    every = range(len(plan[1]))
    return [r for r in rows(plan, noughts) if not any(goes(r[-1], b) or goes(b, r[0]) for b in every)]


def taken(plan):
    """For each point the sides on which arrows end, and those on which arrows begin."""
    ending, beginning = threads.sides(plan)
    return ([{s for s, (_, q) in zip(ending, plan[1]) if q == p} for p in range(plan[0])],
            [{s for s, (q, _) in zip(beginning, plan[1]) if q == p} for p in range(plan[0])])


def something(plan):
    """The threads of something as triples (thread, side of the beginning, side of the end)."""
    ending, beginning = threads.sides(plan)
    ends, starts = taken(plan)
    found = [((plan[1][r[0]][0], r), beginning[r[0]], ending[r[-1]]) for r in longest_rows(plan, False)]
    return found + [((p, ()), s, s) for p in range(plan[0]) for s in (0, 1) if s not in ends[p] | starts[p]]


def nothing(plan):
    """The threads of nothing as triples likewise; a point has the side on which no arrow ends."""
    ending, beginning = threads.sides(plan)
    ends, starts = taken(plan)
    found = [((plan[1][r[0]][0], r), beginning[r[0]], ending[r[-1]]) for r in longest_rows(plan, True)]
    return found + [((p, ()), s, s) for p in range(plan[0]) for s in (0, 1) if s not in ends[p] and 1 - s not in starts[p]]


def end_point(plan, thread):
    return plan[1][thread[1][-1]][1] if thread[1] else thread[0]


def turn(plan, thread, side):
    """The thread of nothing behind one of something that ends on a side, and the thread of something behind that."""
    point = end_point(plan, thread)
    row, first, _ = next(t for t in nothing(plan) if end_point(plan, t[0]) == point and t[2] == 1 - side)
    start = 1 - first if row[1] else 1 - side
    return row, next(t for t in something(plan) if t[0][0] == row[0] and t[1] == start)


def holes(plan):
    """The holes, by turning on from each thread of something that was not met yet."""
    found, left = [], something(plan)
    while left:
        here, row = left[0], []
        while here in left:
            left.remove(here)
            behind, there = turn(plan, here[0], here[2])
            row.append((here[0], behind))
            here = there
        found.append(min(tuple(row[k:] + row[:k]) for k in range(len(row))))
    return tuple(sorted(found))


class Sides(unittest.TestCase):
    def test_by_hand(self):
        self.assertEqual(threads.sides(POINT), ((), ()))
        self.assertEqual(threads.sides(LINE), ((0, 0), (0, 0)))
        self.assertEqual(threads.sides(LINE_NOUGHT), ((0, 0), (0, 1)))
        self.assertEqual(threads.sides(LOOP), ((0,), (1,)))
        self.assertEqual(threads.sides(DOUBLE), ((0, 1), (0, 1)))
        self.assertEqual(threads.sides(FORK), ((0, 1), (0, 0)))
        self.assertEqual(threads.sides(RING), ((0, 0, 0), (1, 1, 1)))
        self.assertEqual(threads.sides(THROUGH), ((0, 1, 0), (0, 0, 1)))
        self.assertEqual(threads.sides(TAILED), ((0, 0, 1, 0), (0, 1, 0, 0)))

    def test_drawn(self):
        for plan in sample(420, 150):
            ending, beginning = threads.sides(plan)
            self.assertEqual((len(ending), len(beginning)), (len(plan[1]), len(plan[1])))
            for p in range(plan[0]):
                ends = [s for s, (_, q) in zip(ending, plan[1]) if q == p]
                starts = [s for s, (q, _) in zip(beginning, plan[1]) if q == p]
                for told in (ends, starts):
                    self.assertEqual(len(told), len(set(told)))
                self.assertEqual((ends + starts + [0])[0], 0)
            for a, (_, p) in enumerate(plan[1]):
                for b, (q, _) in enumerate(plan[1]):
                    if p == q:
                        self.assertEqual(ending[a] != beginning[b], (a, b) in plan[2])


class Threads(unittest.TestCase):
    def test_by_hand(self):
        point = ((0, ()), (0, ()))
        self.assertEqual(threads.threads_of_something(POINT), point)
        self.assertEqual(threads.threads_of_nothing(POINT), point)
        self.assertEqual(threads.threads_of_something(LINE), ((0, ()), (0, (0, 1)), (1, ()), (2, ())))
        self.assertEqual(threads.threads_of_nothing(LINE), ((0, ()), (0, (0,)), (1, (1,)), (2, ())))
        self.assertEqual(threads.threads_of_something(LINE_NOUGHT), ((0, ()), (0, (0,)), (1, (1,)), (2, ())))
        self.assertEqual(threads.threads_of_nothing(LINE_NOUGHT), ((0, ()), (0, (0, 1)), (1, ()), (2, ())))
        self.assertEqual(threads.threads_of_something(LOOP), ((0, (0,)),))
        self.assertEqual(threads.threads_of_nothing(LOOP), ((0, ()),))
        self.assertEqual(threads.threads_of_something(DOUBLE), ((0, (0,)), (0, (1,))))
        self.assertEqual(threads.threads_of_nothing(DOUBLE), ((0, (0,)), (0, (1,))))
        self.assertEqual(threads.threads_of_something(RING), ((0, (0,)), (1, (1,)), (2, (2,))))
        self.assertEqual(threads.threads_of_nothing(RING), ((0, ()), (1, ()), (2, ())))
        self.assertEqual(len(threads.threads_of_something(TWELVE)), 24)
        self.assertEqual(threads.rounds_of_nothing(LINE), ())
        self.assertEqual(threads.rounds_of_nothing(LOOP), ((0,),))
        self.assertEqual(threads.rounds_of_nothing(RING), ((0, 1, 2),))
        self.assertEqual(threads.rounds_of_nothing(MEETING), ((0, 1), (2, 3, 4)))

    def test_drawn(self):
        for plan in sample(421, 150):
            some, none = threads.threads_of_something(plan), threads.threads_of_nothing(plan)
            self.assertEqual(some, tuple(sorted(t[0] for t in something(plan))))
            self.assertEqual(none, tuple(sorted(t[0] for t in nothing(plan))))
            rounds = threads.rounds_of_nothing(plan)
            self.assertEqual(rounds, nought_rounds(plan))
            every = list(range(len(plan[1])))
            self.assertEqual(sorted(a for t in some for a in t[1]), every)
            self.assertEqual(sorted([a for t in none for a in t[1]] + [a for row in rounds for a in row]), every)

    def test_ways_in_threads(self):
        for plan in sample(422, 60):
            some = threads.threads_of_something(plan)
            for p in range(plan[0]):
                for _, row in ways_from(plan, p):
                    met = [1 for _, t in some for k in range(len(t)) if row and t[k:k + len(row)] == row]
                    self.assertEqual(len(met), int(bool(row)))


class Holes(unittest.TestCase):
    def test_by_hand(self):
        point = ((0, ()), (0, ()))
        self.assertEqual(threads.holes(POINT), ((point, point),))
        self.assertEqual(threads.holes(LOOP), ((((0, (0,)), (0, ())),),))
        self.assertEqual(threads.holes(LINE), ((
            ((0, ()), (0, ())), ((0, (0, 1)), (2, ())), ((2, ()), (1, (1,))), ((1, ()), (0, (0,)))),))
        self.assertEqual(threads.holes(LINE_NOUGHT), ((
            ((0, ()), (0, ())), ((0, (0,)), (1, ())), ((1, (1,)), (2, ())), ((2, ()), (0, (0, 1)))),))
        self.assertEqual(threads.holes(DOUBLE), ((((0, (0,)), (0, (1,))),), (((0, (1,)), (0, (0,))),)))
        self.assertEqual(threads.holes(RING), ((
            ((0, (0,)), (1, ())), ((1, (1,)), (2, ())), ((2, (2,)), (0, ()))),))
        self.assertEqual(threads.hole_pairs(POINT), ((2, 0),))
        self.assertEqual(threads.hole_pairs(TWELVE), ((2, 0),) * 12)
        self.assertEqual(threads.hole_pairs(LOOP), ((0, 1), (1, 0)))
        self.assertEqual(threads.hole_pairs(LINE), ((4, 2),))
        self.assertEqual(threads.hole_pairs(DOUBLE), ((1, 1), (1, 1)))
        self.assertEqual(threads.hole_pairs(RING), ((0, 3), (3, 0)))
        self.assertEqual(threads.hole_pairs(MEETING), ((0, 2), (0, 3), (3, 0)))

    def test_drawn(self):
        many = {}
        for plan in sample(423, 150):
            told = threads.holes(plan)
            self.assertEqual(told, holes(plan))
            self.assertEqual(sorted(t for hole in told for t, _ in hole), list(threads.threads_of_something(plan)))
            self.assertEqual(sorted(t for hole in told for _, t in hole), list(threads.threads_of_nothing(plan)))
            pairs = [(len(hole), sum(len(t[1]) for _, t in hole)) for hole in told]
            pairs += [(0, len(row)) for row in nought_rounds(plan)]
            self.assertEqual(threads.hole_pairs(plan), tuple(sorted(pairs)))
            self.assertEqual(sum(n for n, _ in pairs), 2 * plan[0] - len(plan[1]))
            self.assertEqual(sum(m for _, m in pairs), len(plan[1]))
            many[len(told)] = many.get(len(told), 0) + 1
        self.assertGreaterEqual(len(many), 4, many)


class Genus(unittest.TestCase):
    def test_by_hand(self):
        for plan in (POINT, TWELVE, LINE, LOOP, DOUBLE, RING, FORK, MEETING):
            self.assertEqual(threads.genus(plan), 0)
        # Two points, two arrows there and one back, that turn round in one hole.
        self.assertEqual(threads.genus((2, ((0, 1), (0, 1), (1, 0)), ((0, 2), (2, 1)))), 1)
        self.assertEqual(threads.genus(naive.FULL), 4)

    def test_drawn(self):
        met = {}
        for plan in sample(424, 200):
            some, lots = threads.threads_of_something(plan), threads.holes(plan)
            total = 0
            for part in parts_of(plan):
                own = [hole for hole in lots if hole[0][0][0] in part]
                rounds = [row for row in nought_rounds(plan) if plan[1][row[0]][0] in part]
                twice = 2 + len(part) - len([t for t in some if t[0] in part]) - len(own) - len(rounds)
                self.assertEqual(twice % 2, 0)
                self.assertGreaterEqual(twice, 0)
                total += twice // 2
            self.assertEqual(threads.genus(plan), total)
            met[total] = met.get(total, 0) + 1
        self.assertTrue({0, 1, 4} <= set(met), met)


class HolePolynomials(unittest.TestCase):
    def test_by_hand(self):
        self.assertEqual(threads.hole_polynomial(POINT), (1, 1))
        self.assertEqual(threads.hole_polynomial(LOOP), (2, 2))
        self.assertEqual(threads.hole_polynomial(LINE), (1, 1, 1, 1))
        self.assertEqual(threads.hole_polynomial(DOUBLE), (1, -2, 1))
        self.assertEqual(threads.hole_polynomial(RING), (2, 0, 0, 2))
        self.assertEqual(threads.hole_polynomial(TWO_RING), (0, 0, 0))
        self.assertEqual(threads.hole_polynomial(MEETING), (0, 0, 0, 0, 0))
        # One hole of one thread of something and three arrows: (x - 1) times (x - 1), as there is an arrow more.
        self.assertEqual(threads.hole_polynomial((2, ((0, 1), (0, 1), (1, 0)), ((0, 2), (2, 1)))), (1, -2, 1))

    def test_drawn(self):
        more = 0
        for plan in sample(425, 200):
            told = threads.hole_polynomial(plan)
            self.assertEqual(told, way_polynomial(plan))
            self.assertEqual(len(told), plan[0] + 1)
            more += len(plan[1]) > plan[0]
            if plan[0] <= 4:
                table = way_table(plan)
                for x in (2, 3, -2):
                    rows = [[x * a + b for a, b in zip(row, column)] for row, column in zip(table, zip(*table))]
                    self.assertEqual(determinant(rows), sum(c * x ** k for k, c in enumerate(told)))
        self.assertGreater(more, 10)

    def test_factors(self):
        for plan in sample(426, 80):
            told = threads.hole_polynomial(plan)
            for x in (2, 3, -2, -5):
                worth = 1
                for hole in threads.holes(plan):
                    n, m = len(hole), sum(len(t[1]) for _, t in hole)
                    worth *= x ** n - 1 if (n + m) % 2 == 0 else x ** n + 1
                for row in nought_rounds(plan):
                    worth *= 2 if len(row) % 2 else 0
                left = sum(c * x ** k for k, c in enumerate(told)) * (x - 1) ** max(0, plan[0] - len(plan[1]))
                self.assertEqual(left, worth * (x - 1) ** max(0, len(plan[1]) - plan[0]))


if __name__ == "__main__":
    unittest.main()
