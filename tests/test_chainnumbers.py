"""[101] Numbers of maps of chains."""

import random
import unittest

from stringrooms import chainnumbers
from stringrooms.chains import chain_turned, degrees
from stringrooms.coverchains import cover_chain
from stringrooms.farbends import bends_form, far_bends
from stringrooms.farrests import rest_length
from tests import naive, naive_chains
from tests.naive import CHAINED, DOUBLE, LINE, LINE_NOUGHT, LOOP, POINT, RING, TAILED, raised

ALONG = (1, (0,))


def sample(seed, many, each, most, size=5):
    rng = random.Random(seed)
    for plan in naive.plans_for(seed, many, size) + [RING, TAILED, CHAINED, LOOP, DOUBLE] * 4:
        for _ in range(each):
            yield rng, plan, naive_chains.drawn_chain(rng, plan, most), naive_chains.drawn_chain(rng, plan, most)


class Numbers(unittest.TestCase):
    def test_by_hand(self):
        told = chainnumbers.chain_number
        self.assertEqual([told(POINT, 2, (0, ()), (0, ()), s) for s in (-20, -1, 0, 1, 20)], [0, 0, 1, 0, 0])
        self.assertEqual(told(LINE, 3, (1, ()), (0, ()), 0), 1)
        self.assertEqual(told(LINE, 3, (0, ()), (1, ()), 0), 0)
        self.assertEqual(told(LOOP, 3, (0, ()), (0, ()), 0), 2)
        # The place of the point 0 over that of 1 by a map of shift 1.
        self.assertEqual([told(LINE, 5, (0, (ALONG,)), (1, ()), s) for s in (-1, 0, 1, 2)], [0, 0, 1, 0])
        self.assertEqual([told(LINE, 5, (1, ()), (0, (ALONG,)), s) for s in (-1, 0, 1)], [0, 0, 0])
        self.assertEqual([told(LINE_NOUGHT, 5, (0, (ALONG, (1, (1,)))), (2, ()), s) for s in range(4)], [0, 0, 1, 0])
        # A place of degree 1 that is led to nothing: maps of shift -1 to it.
        chain = (0, (ALONG,))
        self.assertEqual([told(LOOP, 7, (0, ()), chain, s) for s in (-2, -1, 0, 1)], [0, 1, 1, 0])

    def test_by_tables(self):
        met = {}
        for rng, plan, chain, other in sample(460, 40, 2, 4):
            prime = rng.choice(naive.PRIMES)
            for shift in (-3, -2, -1, 0, 1, 2, 3):
                told = chainnumbers.chain_number(plan, prime, chain, other, shift)
                self.assertEqual(told, naive_chains.number(plan, prime, chain, other, shift), (plan, chain, other, shift))
                met[told] = met.get(told, 0) + 1
        self.assertGreaterEqual(len(met), 4, met)

    def test_facts(self):
        met = 0
        for rng, plan, chain, other in sample(461, 100, 2, 7, 6):
            shifts = range(-20, 21)
            rows = [[chainnumbers.chain_number(plan, prime, one, two, s) for s in shifts]
                    for prime, one, two in ((2, chain, other), (7, chain_turned(plan, chain), chain_turned(plan, other)))]
            self.assertEqual(rows[0], rows[1])
            form = chainnumbers.chain_form(plan, chain, other)
            self.assertEqual(sum(n * (-1) ** (s % 2) for s, n in zip(shifts, rows[0])), form)
            met += max(rows[0]) > 1
        self.assertGreater(met, 5)

    def test_cover_chains(self):
        rng = random.Random(462)
        met = {}
        for plan in naive.plans_for(463, 120, 6) + [DOUBLE, TAILED, CHAINED, LINE_NOUGHT] * 4:
            for _ in range(3):
                one, two = naive.drawn_walk(rng, plan, 7), naive.drawn_walk(rng, plan, 7)
                if rest_length(plan, one) is None or rest_length(plan, two) is None:
                    continue
                chain, other = cover_chain(plan, one), cover_chain(plan, two)
                for shift in range(-3, 7):
                    told = chainnumbers.chain_number(plan, rng.choice(naive.PRIMES), chain, other, shift)
                    self.assertEqual(told, far_bends(plan, one, two, shift) if shift >= 0 else 0)
                    if told:
                        met[shift] = met.get(shift, 0) + 1
                self.assertEqual(chainnumbers.chain_form(plan, chain, other), bends_form(plan, one, two))
        self.assertGreaterEqual(len(met), 4, met)

    def test_too_great(self):
        zigzag = tuple((1, (0,)) if k % 2 == 0 else (-1, (1,)) for k in range(60))
        for low, high, many in ((19, 39, [0, 400, 400, 0]), (19, 38, [0, 390, 400, 0]), (13, 56, [0, 399, 406, 0]),
                                (20, 39, [0, 420, 400, 0]), (60, 60, [0, 1861, 1860, 0])):
            chain, other = (0, zigzag[:low]), (0, zigzag[:high])
            self.assertEqual([len(naive_chains.plain_maps(DOUBLE, chain, other, s)) for s in (-1, 0, 1, 2)], many)
            plain = [0, 0] + many + [0, 0]
            for shift in (-2, -1, 0, 1, 2, 3):
                told = raised(chainnumbers.chain_number, DOUBLE, 3, chain, other, shift)
                self.assertEqual(told == ("TooGreat", 400), max(plain[max(0, shift + 2):shift + 5]) > 400, (low, high, shift))

    def test_great_ones(self):
        long = (0, (ALONG,) * 60)
        # As few as between short rows of one arrow: all maps but those at the ends lead on or are led on to.
        self.assertEqual([chainnumbers.chain_number(LOOP, 5, long, long, s) for s in (-20, -1, 0, 1, 20)], [1, 1, 2, 1, 1])
        short = (0, (ALONG,) * 3)
        self.assertEqual([naive_chains.number(LOOP, 5, short, short, s) for s in (-2, -1, 0, 1, 2)], [1, 1, 2, 1, 1])
        self.assertEqual(chainnumbers.chain_form(LOOP, long, long), 2)


class Forms(unittest.TestCase):
    def test_by_hand(self):
        self.assertEqual(chainnumbers.chain_form(POINT, (0, ()), (0, ())), 1)
        self.assertEqual(chainnumbers.chain_form(LINE, (1, ()), (0, ())), 1)
        self.assertEqual(chainnumbers.chain_form(LINE, (0, ()), (1, ())), 0)
        self.assertEqual(chainnumbers.chain_form(LINE, (0, (ALONG,)), (1, ())), -1)
        self.assertEqual(chainnumbers.chain_form(LOOP, (0, (ALONG,) * 2), (0, ())), 2)

    def test_drawn(self):
        for rng, plan, chain, other in sample(464, 100, 3, 8, 6):
            total = 0
            for p, d in zip(naive_chains.points(plan, chain), degrees(chain)):
                for q, e in zip(naive_chains.points(plan, other), degrees(other)):
                    ends = [plan[1][row[-1]][1] if row else q for row in naive_chains.ways_from(plan, q)]
                    total += (-1) ** (d + e) * ends.count(p)
            self.assertEqual(chainnumbers.chain_form(plan, chain, other), total)


if __name__ == "__main__":
    unittest.main()
