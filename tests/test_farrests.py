"""[83], [84], [85] Rests of rests."""

import random
import unittest

from stringrooms import farrests
from stringrooms.rests import cover_of, rest_of, rest_parts, tail_of
from stringrooms.rounds import all_strings
from stringrooms.walks import strings_upto, turned
from stringrooms.ways import nought_rounds
from tests import naive
from tests.naive import CHAINED, DOUBLE, LINE, LINE_NOUGHT, LOOP, POINT, RING, TAILED, TWELVE

# Two round rows of noughts, of two and three arrows, that meet at one point.
MEETING = (4, ((0, 1), (1, 0), (0, 2), (2, 3), (3, 0)), ((0, 1), (1, 0), (2, 3), (3, 4), (4, 2)))
# A row of noughts of four arrows, and beside it a round one of two.
# From the point 0 one row of noughts goes round, and one of four arrows ends.
BOTH = (5, ((0, 0), (0, 1), (1, 2), (2, 3), (3, 4)), ((0, 0), (1, 2), (2, 3), (3, 4)))
LONG = (7, ((0, 1), (1, 2), (2, 3), (3, 4), (5, 6), (6, 5)), ((0, 1), (1, 2), (2, 3), (4, 5), (5, 4)))


def step_by_step(plan, walk, many):
    """The rests of 0, 1, .. steps, resting step by step."""
    rows = [(naive.string(plan, walk),)]
    for _ in range(many):
        rows.append(tuple(sorted(s for one in rows[-1] for s in rest_of(plan, one))))
    return rows


def sample(seed, many, each=3):
    rng = random.Random(seed)
    for plan in naive.plans_for(seed, many) + [RING, MEETING, BOTH, LONG, LOOP, TAILED, CHAINED, naive.FULL] * 3:
        for _ in range(each):
            yield rng, plan, naive.drawn_walk(rng, plan, 7)


class Rests(unittest.TestCase):
    def test_by_hand(self):
        self.assertEqual(farrests.far_rest(LINE, (0, ()), 0), ((0, ()),))
        self.assertEqual(farrests.far_rest(LINE, (2, (-2,)), 0), ((1, (1,)),))
        self.assertEqual(farrests.far_rest(LINE_NOUGHT, (0, ()), 1), ((1, ()),))
        self.assertEqual(farrests.far_rest(LINE_NOUGHT, (0, ()), 2), ((2, ()),))
        self.assertEqual(farrests.far_rest(LINE_NOUGHT, (0, ()), 3), ())
        self.assertEqual(farrests.far_tails(LINE_NOUGHT, (0, ()), 1), (0,))
        self.assertEqual(farrests.far_tails(LINE_NOUGHT, (0, ()), 2), (1,))
        self.assertEqual(farrests.far_tails(LINE_NOUGHT, (0, ()), 10 ** 30), ())
        self.assertEqual(farrests.far_rest(LOOP, (0, ()), 10 ** 30), ((0, ()),))
        self.assertEqual(farrests.far_tails(RING, (0, ()), 10 ** 30), (0,))
        self.assertEqual(farrests.far_tails(RING, (0, ()), 10 ** 30 - 1), (2,))
        self.assertEqual(farrests.far_rest(RING, (0, ()), 10 ** 30), ((1, ()),))
        self.assertEqual(farrests.rest_length(LINE_NOUGHT, (0, ())), 2)
        self.assertEqual(farrests.rest_length(LINE_NOUGHT, (0, (0,))), 0)
        self.assertIsNone(farrests.rest_length(LOOP, (0, ())))
        self.assertEqual(farrests.rest_length(POINT, (0, ())), 0)
        self.assertEqual(farrests.rest_length(DOUBLE, (0, (0, -2))), 1)
        self.assertIsNone(farrests.rest_ring(LINE_NOUGHT, (0, ())))
        self.assertEqual(farrests.rest_ring(LOOP, (0, ())), (0, 1))
        self.assertEqual(farrests.rest_ring(RING, (0, ())), (0, 3))
        self.assertEqual(farrests.rest_ring(MEETING, (0, ()))[1], 6)
        self.assertEqual(farrests.rest_ring(BOTH, (0, ())), (5, 1))
        self.assertEqual(len(farrests.far_rest(BOTH, (0, ()), 4)), 2)
        self.assertEqual(len(farrests.far_rest(BOTH, (0, ()), 5)), 1)

    def test_step_by_step(self):
        for rng, plan, walk in sample(360, 150):
            rows = step_by_step(plan, walk, 30)
            for steps, told in enumerate(rows):
                self.assertEqual(farrests.far_rest(plan, walk, steps), told)
                self.assertEqual(farrests.far_rest(plan, turned(plan, walk), steps), told)
            arrows = list(rest_parts(plan, walk)[1])
            for steps in range(1, 31):
                self.assertEqual(farrests.far_tails(plan, walk, steps), tuple(sorted(arrows)))
                if steps > 1:
                    self.assertEqual(rows[steps], tuple(sorted(tail_of(plan, a) for a in arrows)))
                arrows = [b for a in arrows for b in range(len(plan[1])) if (a, b) in plan[2]]

    def test_great_steps(self):
        for rng, plan, walk in sample(361, 100):
            period = 1
            for row in nought_rounds(plan):
                period *= len(row)
            rows = step_by_step(plan, walk, 25 + period)
            for great in (10 ** 9, 10 ** 30 - 3, 10 ** 30):
                told = rows[25 + (great - 25) % period]
                self.assertEqual(farrests.far_rest(plan, walk, great), told)
                self.assertEqual(len(farrests.far_tails(plan, walk, great)), len(told))

    def test_lengths_and_rings(self):
        met = {"ends": 0, "rings": 0, "starts": 0}
        for rng, plan, walk in sample(362, 200):
            many = 180
            rows = step_by_step(plan, walk, 2 * many)
            told = [steps for steps, row in enumerate(rows) if row]
            if told[-1] < many:
                self.assertEqual(farrests.rest_length(plan, walk), told[-1])
                self.assertIsNone(farrests.rest_ring(plan, walk))
                met["ends"] += 1
                continue
            self.assertIsNone(farrests.rest_length(plan, walk))
            ring = next(r for r in range(1, many) if rows[many:2 * many - r] == rows[many + r:2 * many])
            start = next(s for s in range(many) if rows[s:many] == rows[s + ring:many + ring])
            self.assertEqual(farrests.rest_ring(plan, walk), (start, ring))
            met["rings"] += ring > 1
            met["starts"] += start > 0
        self.assertGreater(min(met.values()), 10, met)

    def test_covers(self):
        for plan in naive.plans_for(363, 60):
            for p in range(plan[0]):
                self.assertEqual(farrests.rest_length(plan, cover_of(plan, p)), 0)
                self.assertEqual(farrests.far_rest(plan, cover_of(plan, p), 10 ** 30), ())


class Plans(unittest.TestCase):
    def test_by_hand(self):
        self.assertEqual(farrests.lasting(LINE), ())
        self.assertEqual(farrests.lasting(LOOP), ((0, ()),))
        self.assertEqual(farrests.lasting(RING), ((0, ()), (1, ()), (2, ())))
        self.assertEqual(farrests.plan_depth(POINT), 0)
        self.assertEqual(farrests.plan_depth(TWELVE), 0)
        self.assertEqual(farrests.plan_depth(LINE), 1)
        self.assertEqual(farrests.plan_depth(LINE_NOUGHT), 2)
        self.assertIsNone(farrests.plan_depth(LOOP))
        self.assertIsNone(farrests.plan_depth(LONG))
        self.assertEqual(farrests.plan_depth((5, LONG[1][:4], LONG[2][:3])), 4)

    def test_drawn(self):
        met = {True: 0, False: 0}
        for plan in naive.plans_for(364, 150, 5) + [RING, MEETING, LONG, TAILED]:
            strings = strings_upto(plan, 1)
            lengths = [farrests.rest_length(plan, s) for s in strings]
            told = None if None in lengths else max(lengths)
            self.assertEqual(farrests.plan_depth(plan), told)
            last = sorted({one for s in strings for steps in range(60, 90) for one in farrests.far_rest(plan, s, steps)})
            self.assertEqual(farrests.lasting(plan), tuple(last))
            self.assertEqual(told is None, bool(last))
            met[told is None] += 1
            if plan[0] < 4 and naive.raised(all_strings, plan)[0] == "nothing raised":
                every = [farrests.rest_length(plan, s) for s in all_strings(plan)]
                self.assertEqual(told, None if None in every else max(every))
        self.assertGreater(min(met.values()), 20)


if __name__ == "__main__":
    unittest.main()
