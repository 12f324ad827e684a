"""[86], [87] Bends of many steps."""

import random
import unittest

from stringrooms import farbends
from stringrooms.bending import bends
from stringrooms.bentrooms import bent_number
from stringrooms.farrests import far_rest, rest_length
from stringrooms.layers import cover_points
from stringrooms.pieces import map_number
from stringrooms.plans import turned_plan
from stringrooms.rests import rest_of, rest_parts
from stringrooms.rooms import string_room
from stringrooms.walks import in_turned_plan, sizes_of, turned
from tests import naive
from tests.naive import CHAINED, DOUBLE, LINE, LINE_NOUGHT, LOOP, POINT, RING, TAILED, raised
from tests.test_farrests import BOTH, LONG, MEETING, step_by_step


def sample(seed, many, each=4, letters=6):
    rng = random.Random(seed)
    for plan in naive.plans_for(seed, many, 5) + [RING, MEETING, BOTH, LONG, LOOP, TAILED, CHAINED, naive.FULL] * 3:
        for _ in range(each):
            yield rng, plan, naive.drawn_walk(rng, plan, letters), naive.drawn_walk(rng, plan, letters)


class Bends(unittest.TestCase):
    def test_by_hand(self):
        self.assertEqual([farbends.far_bends(LINE_NOUGHT, (0, ()), (2, ()), n) for n in range(5)], [0, 0, 1, 0, 0])
        self.assertEqual([farbends.far_bends(LINE, (0, ()), (1, ()), n) for n in range(3)], [0, 1, 0])
        self.assertEqual([farbends.far_bends(LOOP, (0, ()), (0, ()), n) for n in (0, 1, 2, 10 ** 30)], [1, 1, 1, 1])
        self.assertEqual([farbends.far_bends(RING, (0, ()), (0, ()), n) for n in range(8)], [1, 0, 0, 1, 0, 0, 1, 0])
        self.assertEqual(farbends.far_bends(RING, (0, ()), (1, ()), 10 ** 30), 1)
        self.assertEqual(farbends.far_bends(RING, (0, ()), (2, ()), 10 ** 30), 0)
        self.assertEqual(farbends.far_bends(DOUBLE, (0, ()), (1, ()), 1), 2)

    def test_step_by_step(self):
        for rng, plan, walk, other in sample(370, 100):
            rows = step_by_step(plan, walk, 12)
            self.assertEqual(farbends.far_bends(plan, walk, other, 0), map_number(plan, walk, other))
            for steps in range(1, 13):
                told = sum(bends(plan, one, other) for one in rows[steps - 1])
                self.assertEqual(farbends.far_bends(plan, walk, other, steps), told)
                self.assertEqual(farbends.far_bends(plan, turned(plan, walk), turned(plan, other), steps), told)

    def test_by_tables(self):
        for rng, plan, walk, other in sample(371, 60, 2, 4):
            for steps in (1, 2, 3):
                told = sum(bent_number(plan, 3, string_room(plan, one), string_room(plan, other))
                           for one in far_rest(plan, walk, steps - 1))
                self.assertEqual(farbends.far_bends(plan, walk, other, steps), told)

    def test_arrows_turned(self):
        for rng, plan, walk, other in sample(372, 100):
            about = turned_plan(plan)
            one, two = in_turned_plan(plan, walk), in_turned_plan(plan, other)
            for steps in (0, 1, 2, 3, 7, 10 ** 30):
                self.assertEqual(farbends.far_bends(plan, walk, other, steps),
                                 farbends.far_bends(about, two, one, steps), (plan, walk, other, steps))


class Rows(unittest.TestCase):
    def test_by_hand(self):
        self.assertEqual(farbends.bends_row(POINT, (0, ()), (0, ())), ((1,), (0,)))
        self.assertEqual(farbends.bends_row(LINE, (1, ()), (0, ())), ((), (0,)))
        self.assertEqual(farbends.bends_row(LINE_NOUGHT, (0, ()), (2, ())), ((0, 0, 1), (0,)))
        self.assertEqual(farbends.bends_row(LOOP, (0, ()), (0, ())), ((), (1,)))
        self.assertEqual(farbends.bends_row(RING, (0, ()), (0, ())), ((), (1, 0, 0)))
        self.assertEqual(farbends.bends_row(RING, (0, ()), (1, ())), ((), (0, 1, 0)))
        self.assertEqual(farbends.bends_row(LOOP, (0, (0,)), (0, ())), ((1,), (0,)))
        # The row of noughts that ends is met at 1, 2, 3, 4 and leaves its last arrow's end in the fourth step.
        self.assertEqual(farbends.bends_row(BOTH, (0, ()), (4, ())), ((0, 0, 0, 0, 1), (0,)))

    def test_drawn(self):
        met = {}
        for rng, plan, walk, other in sample(373, 200):
            head, ring = farbends.bends_row(plan, walk, other)
            many = 160
            told = [farbends.far_bends(plan, walk, other, steps) for steps in range(many)]
            self.assertEqual(told, list((head + ring * many)[:many]))
            self.assertFalse(any(len(ring) % d == 0 and ring == ring[:d] * (len(ring) // d) for d in range(1, len(ring))))
            self.assertFalse(head and head[-1] == ring[-1])
            great = 10 ** 30
            self.assertEqual(farbends.far_bends(plan, walk, other, great), ring[(great - len(head)) % len(ring)])
            kind = (bool(head), min(len(ring), 3), any(ring))
            met[kind] = met.get(kind, 0) + 1
            if rest_length(plan, walk) is not None:
                self.assertEqual(ring, (0,))
        self.assertGreaterEqual(len(met), 6, met)

    def test_forms(self):
        met = {True: 0, False: 0}
        for rng, plan, walk, other in sample(374, 150):
            length = rest_length(plan, walk)
            met[length is None] += 1
            if length is None:
                self.assertEqual(raised(farbends.bends_form, plan, walk, other), ("Endless",))
                continue
            told = sum((-1) ** n * farbends.far_bends(plan, walk, other, n) for n in range(length + 5))
            self.assertEqual(farbends.bends_form(plan, walk, other), told)
            sizes, total, sign, row = sizes_of(plan, other), 0, 1, [walk]
            while row:
                total += sign * sum(sizes[p] for one in row for p in cover_points(plan, one))
                row, sign = [s for one in row for s in rest_of(plan, one)], -sign
            self.assertEqual(told, total)
        self.assertGreater(min(met.values()), 50)

    def test_forms_by_hand(self):
        self.assertEqual(farbends.bends_form(POINT, (0, ()), (0, ())), 1)
        self.assertEqual(farbends.bends_form(DOUBLE, (0, ()), (1, ())), -2)
        self.assertEqual(farbends.bends_form(LINE_NOUGHT, (0, ()), (2, ())), 1)
        self.assertEqual(raised(farbends.bends_form, RING, (0, ()), (1, ())), ("Endless",))
        # The rest of this walk ends, though that of others in the plan does not.
        self.assertEqual(farbends.bends_form(LOOP, (0, (0,)), (0, ())), 1)
        self.assertEqual(rest_parts(LOOP, (0, (0,))), ((), ()))


if __name__ == "__main__":
    unittest.main()
