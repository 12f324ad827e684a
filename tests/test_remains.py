"""[98], [99] Remains of chains."""

import random
import unittest

from stringrooms import remains
from stringrooms.chains import chain_turned
from stringrooms.rests import cover_of
from stringrooms.walks import sizes_of
from tests import naive, naive_chains
from tests.naive import CHAINED, DOUBLE, LINE, LINE_NOUGHT, LOOP, POINT, RING, TAILED

ALONG, AGAINST = (1, (0,)), (-1, (0,))


class Remains(unittest.TestCase):
    def test_without_steps(self):
        for plan in naive.plans_for(440, 60):
            for p in range(plan[0]):
                cover = cover_of(plan, p)
                self.assertEqual(remains.remains_of(plan, (p, ())), ((cover,),))
                self.assertEqual(remains.remains_units(plan, (p, ())), (sizes_of(plan, cover),))

    def test_by_hand(self):
        told = remains.remains_of
        self.assertEqual(told(POINT, (0, ())), (((0, ()),),))
        # The cover of 0 with that of 1 led into it: the one place of 0 is left, or nothing of it where all is reached.
        self.assertEqual(told(LINE, (0, (ALONG,))), (((0, ()),), ()))
        self.assertEqual(told(LINE, (0, ((1, (0, 1)),))), (((0, (0,)),), ()))
        self.assertEqual(told(LINE, (1, (AGAINST,))), (((0, ()),), ()))
        self.assertEqual(told(LINE_NOUGHT, (0, (ALONG,))), (((0, ()),), ((2, ()),)))
        self.assertEqual(told(LINE_NOUGHT, (0, (ALONG, (1, (1,))))), (((0, ()),), (), ()))
        self.assertEqual(told(LOOP, (0, (ALONG,) * 3)), (((0, ()),), (), (), ((0, ()),)))
        # A place that leads to both neighbours joins their covers; one to which both lead loses on both sides.
        self.assertEqual(told(DOUBLE, (0, (ALONG, (-1, (1,))))), (((1, (-2, 0, -2, 0)),), ()))
        self.assertEqual(told(DOUBLE, (1, (AGAINST, (1, (1,))))), (((0, ()),), ()))
        self.assertEqual(told(DOUBLE, (0, (ALONG,))), (((0, (1,)),), ()))
        self.assertEqual(remains.remains_units(LINE_NOUGHT, (0, (ALONG,))), ((1, 0, 0), (0, 0, 1)))
        self.assertEqual(remains.remains_units(LINE_NOUGHT, (0, (ALONG, (1, (1,))))), ((1, 0, 0), (0, 0, 0), (0, 0, 0)))

    def test_by_tables(self):
        rng = random.Random(441)
        met = {}
        for plan in naive.plans_for(442, 250, 5) + [RING, TAILED, CHAINED, LOOP, DOUBLE] * 5:
            for _ in range(3):
                chain = naive_chains.drawn_chain(rng, plan, rng.choice((2, 4, 7)))
                if len(naive_chains.units(plan, chain)) > 30:
                    continue
                told = naive_chains.remains(plan, rng.choice(naive.PRIMES), chain)
                if told is None:
                    continue
                self.assertEqual(remains.remains_of(plan, chain), told, (plan, chain))
                self.assertEqual(remains.remains_units(plan, chain), tuple(
                    tuple(sum(naive.points(plan, s).count(p) for s in row) for p in range(plan[0])) for row in told))
                self.assertEqual(remains.remains_of(plan, chain_turned(plan, chain)), told)
                kind = (min(len(chain[1]), 4), any(told[1:]), any(not row for row in told))
                met[kind] = met.get(kind, 0) + 1
        self.assertGreaterEqual(len(met), 12, met)


if __name__ == "__main__":
    unittest.main()
