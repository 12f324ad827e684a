"""[100] Cover chains and cut chains."""

import random
import unittest

from stringrooms import coverchains
from stringrooms.chains import chain_of, chain_turned, check_chain, degrees
from stringrooms.farrests import far_rest, rest_length
from stringrooms.layers import cover_points
from stringrooms.remains import remains_of
from stringrooms.rests import cover_of
from stringrooms.walks import string_of, turned
from tests import naive, naive_chains
from tests.naive import CHAINED, DOUBLE, FORK, LINE, LINE_NOUGHT, LOOP, POINT, RING, TAILED, raised
from tests.test_farrests import BOTH, LONG, MEETING


def sample(seed, many, each=3, letters=8):
    rng = random.Random(seed)
    for plan in naive.plans_for(seed, many) + [RING, MEETING, BOTH, LONG, LOOP, TAILED, CHAINED, naive.FULL] * 3:
        for _ in range(each):
            yield rng, plan, naive.drawn_walk(rng, plan, letters)


class Covers(unittest.TestCase):
    def test_by_hand(self):
        told = coverchains.cover_chain
        self.assertEqual(told(POINT, (0, ())), (0, ()))
        self.assertEqual(told(LINE, (0, (0, 1))), (0, ()))
        self.assertEqual(told(LINE, (0, ())), (0, ((1, (0,)),)))
        self.assertEqual(told(LINE, (0, (0,))), (0, ((1, (0, 1)),)))
        self.assertEqual(told(LINE, (1, (-1,))), (0, ((1, (0, 1)),)))
        self.assertEqual(told(LINE_NOUGHT, (0, ())), (0, ((1, (0,)), (1, (1,)))))
        self.assertEqual(told(LINE_NOUGHT, (1, ())), (1, ((1, (1,)),)))
        # Two tops with a low place between them; a top with a tail at each end.
        self.assertEqual(told(FORK, (0, (0, -2))), (0, ((1, (0,)), (-1, (1,)))))
        self.assertEqual(told(DOUBLE, (0, ())), (1, ((-1, (0,)), (1, (1,)))))
        self.assertEqual(told(DOUBLE, (0, (0, -2))), (1, ((-1, (0,)), (1, (1,)), (-1, (0,)), (1, (1,)))))
        self.assertEqual(raised(told, LOOP, (0, ())), ("Endless",))
        self.assertEqual(told(LOOP, (0, (0,))), (0, ()))
        self.assertEqual(raised(told, RING, (0, ())), ("Endless",))
        self.assertEqual(raised(told, BOTH, (0, ())), ("Endless",))

    def test_facts(self):
        endless = 0
        for rng, plan, walk in sample(450, 150):
            told = raised(coverchains.cover_chain, plan, walk)
            length = rest_length(plan, walk)
            self.assertEqual(told == ("Endless",), length is None)
            endless += length is None
            if length is None:
                continue
            chain = told[1]
            self.assertEqual(coverchains.cover_chain(plan, turned(plan, walk)), chain)
            if len(chain[1]) <= 60:
                self.assertEqual(check_chain(plan, chain), chain)
            self.assertEqual(chain_of(plan, chain), chain)
            self.assertEqual(remains_of(plan, chain), ((string_of(plan, walk),),) + ((),) * length)
            # A place of degree 0 for each top, others for the covers that cover the rests.
            lying = [p for p, d in zip(naive_chains.points(plan, chain), degrees(chain)) if d == 0]
            self.assertEqual(sorted(lying), list(cover_points(plan, walk)))
            for steps in range(1, length + 1):
                row = sorted(p for one in far_rest(plan, walk, steps) for p in cover_points(plan, one))
                lying = [p for p, d in zip(naive_chains.points(plan, chain), degrees(chain)) if d == steps]
                self.assertEqual(sorted(lying), row)
        self.assertGreater(endless, 30)


class Cuts(unittest.TestCase):
    def test_by_hand(self):
        told = coverchains.cut_chain
        self.assertEqual(told(LOOP, (0, ()), 1), (0, ((-1, (0,)),)))
        self.assertEqual(told(LOOP, (0, ()), 60), (0, ((-1, (0,)),) * 60))
        self.assertEqual(told(RING, (0, ()), 4), (0, ((1, (0,)), (1, (1,)), (1, (2,)), (1, (0,)))))
        self.assertEqual(told(LINE_NOUGHT, (0, ()), 1), (0, ((1, (0,)),)))
        self.assertEqual(told(LINE_NOUGHT, (0, ()), 2), (0, ((1, (0,)), (1, (1,)))))
        self.assertEqual(told(LINE_NOUGHT, (0, ()), 60), (0, ((1, (0,)), (1, (1,)))))
        # One row of noughts goes round, the other one ends.
        self.assertEqual(told(BOTH, (0, ()), 2), (0, ((-1, (0,)), (-1, (0,)), (1, (1,)), (1, (2,)))))

    def test_facts(self):
        cut = 0
        for rng, plan, walk in sample(451, 120):
            length = rest_length(plan, walk)
            for steps in (1, 2, 3, 7, 60):
                chain = coverchains.cut_chain(plan, walk, steps)
                if len(chain[1]) <= 60:
                    self.assertEqual(check_chain(plan, chain), chain)
                self.assertEqual(chain_of(plan, chain), chain)
                self.assertEqual(coverchains.cut_chain(plan, turned(plan, walk), steps), chain)
                if length is not None and length <= steps:
                    self.assertEqual(chain, coverchains.cover_chain(plan, walk))
                    continue
                left = remains_of(plan, chain)
                self.assertEqual(left[0], (string_of(plan, walk),))
                self.assertEqual(left[1:], ((),) * (steps - 1) + (far_rest(plan, walk, steps + 1),))
                cut += 1
        self.assertGreater(cut, 200)


class Walks(unittest.TestCase):
    def test_by_hand(self):
        told = coverchains.walk_of_chain
        self.assertEqual(told(POINT, (0, ())), (0, ()))
        self.assertEqual(told(LINE, (0, ())), (0, (0, 1)))
        self.assertEqual(told(LINE, (0, ((1, (0, 1)),))), (0, (0,)))
        self.assertEqual(told(LINE, (2, ((-1, (0, 1)),))), (0, (0,)))
        self.assertEqual(raised(told, LINE_NOUGHT, (0, ((1, (0,)),))), ("NoWay",))
        self.assertEqual(told(LINE_NOUGHT, (0, ((1, (0,)), (1, (1,))))), (0, ()))
        self.assertEqual(raised(told, LOOP, (0, ((1, (0,)),) * 5)), ("NoWay",))
        self.assertEqual(told(FORK, (1, ((-1, (0,)),))), (0, ()))
        self.assertEqual(told(DOUBLE, (0, ((1, (0,)), (-1, (1,)), (1, (0,))))), (0, (1, -1, 1)))

    def test_there_and_back(self):
        for rng, plan, walk in sample(452, 150):
            if rest_length(plan, walk) is not None:
                chain = coverchains.cover_chain(plan, walk)
                for one in (chain, chain_turned(plan, chain)):
                    self.assertEqual(coverchains.walk_of_chain(plan, one), string_of(plan, walk))
        for plan in naive.plans_for(453, 40):
            for p in range(plan[0]):
                self.assertEqual(coverchains.walk_of_chain(plan, (p, ())), cover_of(plan, p))

    def test_drawn_chains(self):
        rng = random.Random(454)
        met = {}
        for plan in naive.plans_for(455, 150, 5) + [RING, TAILED, CHAINED, DOUBLE, LOOP] * 5:
            for _ in range(4):
                chain = naive_chains.drawn_chain(rng, plan, 5)
                told = raised(coverchains.walk_of_chain, plan, chain)
                left = remains_of(plan, chain)
                alone = len(left[0]) == 1 and not any(left[1:])
                self.assertEqual(told, ("nothing raised", left[0][0]) if alone else ("NoWay",))
                if alone:
                    self.assertEqual(coverchains.cover_chain(plan, told[1]), chain_of(plan, chain))
                key = (alone, min(len(chain[1]), 3))
                met[key] = met.get(key, 0) + 1
        self.assertGreaterEqual(len(met), 7, met)


if __name__ == "__main__":
    unittest.main()
