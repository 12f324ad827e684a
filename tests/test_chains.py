"""[96], [97] Chains."""

import random
import unittest

from stringrooms import chains
from stringrooms.forms import beside
from tests import naive, naive_chains
from tests.naive import CHAINED, DOUBLE, LINE, LINE_NOUGHT, LOOP, POINT, RING, TAILED, TWELVE, raised

ALONG, AGAINST = (1, (0,)), (-1, (0,))
# Plans of which two beside one another have just 2000 chains of 6 steps and 9 arrows, or 2001 of 5 steps and 12 arrows.
JUST = (((7, ((2, 2), (0, 6), (5, 3), (6, 6), (6, 0), (2, 1), (0, 2), (4, 4)),
          ((0, 0), (1, 4), (3, 3), (4, 1), (6, 5), (7, 7))),
         (5, ((4, 1), (1, 2), (4, 3), (1, 0), (2, 2), (3, 1)), ((0, 1), (4, 4), (5, 3)))),
        ((6, ((2, 5), (5, 2), (2, 0), (3, 5), (5, 3), (4, 4), (3, 2)), ((0, 4), (1, 0), (3, 1), (4, 3), (5, 5), (6, 2))),
         (5, ((0, 3), (0, 2), (3, 0), (2, 3), (3, 1), (4, 0)), ((0, 2), (1, 3), (2, 0), (3, 4), (5, 1)))))


def sample(seed, many, each=4, most=6):
    rng = random.Random(seed)
    for plan in naive.plans_for(seed, many, 6) + [RING, TAILED, CHAINED, naive.GREAT] * 3:
        for _ in range(each):
            yield rng, plan, naive_chains.drawn_chain(rng, plan, most)


class Check(unittest.TestCase):
    def test_right_ones(self):
        for plan, chain in ((POINT, (0, ())), (TWELVE, (11, ())), (LINE, (0, ((1, (0, 1)),))),
                            (LINE, (2, ((-1, (0, 1)),))), (LINE_NOUGHT, (0, (ALONG, (1, (1,))))),
                            (LINE_NOUGHT, (2, ((-1, (1,)), AGAINST))), (DOUBLE, (0, (ALONG, (-1, (1,)), ALONG))),
                            (DOUBLE, (1, (AGAINST, (1, (1,)), AGAINST))), (LOOP, (0, (ALONG,) * 60)),
                            (LOOP, (0, (AGAINST,) * 60))):
            self.assertIs(chains.check_chain(plan, chain), chain)

    def test_wrong_kinds(self):
        for plan in (POINT, LINE):
            for value in naive.ODD_VALUES:
                told = raised(chains.check_chain, plan, value)
                place = 0 if value == (0, ((),)) else -1
                self.assertEqual(told, ("nothing raised", value) if value == (0, ()) else ("NotWalk", place), value)
        for value in ((3, ()), (-1, ()), (True, ()), ("0", ()), (0, [ALONG]), [0, (ALONG,)], (0, (ALONG,), 0), (0, None)):
            self.assertEqual(raised(chains.check_chain, LINE, value), ("NotWalk", -1), value)
        self.assertEqual(raised(chains.check_chain, LOOP, (0, (ALONG,) * 61)), ("NotWalk", -1))

    def test_wrong_steps(self):
        wrong = (None, (), (1,), (1, (0,), 0), [1, (0,)], (0, (0,)), (2, (0,)), (True, (0,)), ("1", (0,)), (1, ()), (1, [0]),
                 (1, (2,)), (1, (-1,)), (1, (True,)), (1, (0, 0)), (1, (1, 0)), (1, ("0",)), (1, 0))
        for step in wrong:
            self.assertEqual(raised(chains.check_chain, LINE, (0, (step,))), ("NotWalk", 0), step)
            self.assertEqual(raised(chains.check_chain, LINE_NOUGHT, (0, (ALONG, step))), ("NotWalk", 1), step)
        for step in ((2, (0,)), (0, (0,)), (-2, (0,)), (False, (0,)), (-1.0, (0,)), (-1, 7), (-1, None), (-1, "0"), (-1, {0: 1})):
            self.assertEqual(raised(chains.check_chain, LINE, (1, (step,))), ("NotWalk", 0), step)
        # A nought is not next; another beginning; a way that goes on makes no chain.
        self.assertEqual(raised(chains.check_chain, LINE_NOUGHT, (0, ((1, (0, 1)),))), ("NotWalk", 0))
        self.assertEqual(raised(chains.check_chain, LINE, (1, (ALONG,))), ("NotWalk", 0))
        self.assertEqual(raised(chains.check_chain, LINE, (0, (AGAINST,))), ("NotWalk", 0))
        self.assertEqual(raised(chains.check_chain, LINE, (0, (ALONG, (1, (1,))))), ("NotWalk", 1))
        self.assertEqual(raised(chains.check_chain, LINE, (2, ((-1, (1,)), AGAINST))), ("NotWalk", 1))
        self.assertEqual(raised(chains.check_chain, LINE, (0, (ALONG, AGAINST))), ("NotWalk", 1))
        self.assertEqual(raised(chains.check_chain, LINE, (1, (AGAINST, ALONG))), ("NotWalk", 1))
        self.assertEqual(raised(chains.check_chain, LINE, (1, (AGAINST, (1, (0, 1))))), ("NotWalk", 1))
        # The least place of several.
        self.assertEqual(raised(chains.check_chain, LINE, (0, (None, None))), ("NotWalk", 0))
        self.assertEqual(raised(chains.check_chain, LINE_NOUGHT, (0, (ALONG, (1, (1,)), None))), ("NotWalk", 2))

    def test_drawn(self):
        met = {}
        for rng, plan, chain in sample(430, 150):
            self.assertEqual(chains.check_chain(plan, chain), chain)
            steps = [(turn, row) for row in naive_chains.every_way(plan) for turn in (1, -1)]
            if not steps:
                continue
            place = rng.randint(0, len(chain[1]))
            told = chain[1][:place] + (rng.choice(steps),) + chain[1][place + 1:]
            wrong = [k for k, step in enumerate(told) if not (
                naive_chains.together(plan, told[k - 1], step) if k
                else naive_chains.ends(plan, step)[0] == chain[0])]
            expected = ("NotWalk", wrong[0]) if wrong else ("nothing raised", (chain[0], told))
            self.assertEqual(raised(chains.check_chain, plan, (chain[0], told)), expected)
            met[bool(wrong)] = met.get(bool(wrong), 0) + 1
        self.assertGreater(min(met.values()), 50)


class Places(unittest.TestCase):
    def test_by_hand(self):
        chain = (0, (ALONG, (-1, (1,)), ALONG, (-1, (1,))))
        self.assertEqual(chains.chain_points(DOUBLE, chain), (0, 1, 0, 1, 0))
        self.assertEqual(chains.degrees(chain), (0, 1, 0, 1, 0))
        self.assertEqual(chains.chain_sizes(DOUBLE, chain), (3, -2))
        self.assertEqual(chains.chain_turned(DOUBLE, chain), (0, ((1, (1,)), AGAINST, (1, (1,)), AGAINST)))
        self.assertEqual(chains.chain_of(DOUBLE, chains.chain_turned(DOUBLE, chain)), chain)
        self.assertEqual(chains.degrees((2, ((-1, (1,)), AGAINST))), (2, 1, 0))
        self.assertEqual(chains.degrees((4, ())), (0,))
        self.assertEqual(chains.chain_points(LINE, (2, ((-1, (0, 1)),))), (2, 0))
        self.assertEqual(chains.chain_sizes(LINE, (2, ((-1, (0, 1)),))), (1, 0, -1))
        self.assertEqual(chains.chain_of(LINE, (2, ((-1, (0, 1)),))), (0, ((1, (0, 1)),)))
        self.assertEqual(chains.chain_turned(POINT, (0, ())), (0, ()))

    def test_drawn(self):
        for rng, plan, chain in sample(431, 150):
            points, degrees = naive_chains.points(plan, chain), naive_chains.degrees(chain)
            self.assertEqual(chains.chain_points(plan, chain), tuple(points))
            self.assertEqual(chains.degrees(chain), tuple(degrees))
            self.assertEqual(chains.chain_sizes(plan, chain), tuple(
                sum((-1) ** d for q, d in zip(points, degrees) if q == p) for p in range(plan[0])))
            about = chains.chain_turned(plan, chain)
            self.assertEqual(about, naive_chains.about(plan, chain))
            self.assertEqual(chains.check_chain(plan, about), about)
            self.assertEqual(chains.chain_turned(plan, about), chain)
            self.assertEqual(chains.degrees(about), chains.degrees(chain)[::-1])
            for one in (chain, about):
                self.assertEqual(chains.chain_of(plan, one), min(chain, about))


class Lists(unittest.TestCase):
    def test_by_hand(self):
        self.assertEqual(chains.chains_of(POINT, 0, 0), ((0, ()),))
        self.assertEqual(chains.chains_of(POINT, 0, 1), ())
        self.assertEqual(chains.chains_of(POINT, 1, 1), ())
        self.assertEqual(chains.chains_of(LINE, 0, 0), ((0, ()), (1, ()), (2, ())))
        self.assertEqual(chains.chains_of(LINE, 1, 0), ())
        self.assertEqual(chains.chains_of(LINE, 1, 1), ((0, (ALONG,)), (1, ((1, (1,)),))))
        self.assertEqual(chains.chains_of(LINE, 1, 2), ((0, ((1, (0, 1)),)),))
        self.assertEqual(chains.chains_of(LINE, 1, 3), ())
        self.assertEqual(chains.chains_of(LINE, 2, 3), ())
        self.assertEqual(chains.chains_of(LINE_NOUGHT, 2, 2), ((0, (ALONG, (1, (1,)))),))
        self.assertEqual(chains.chains_of(LOOP, 6, 6), ((0, (AGAINST,) * 6),))
        self.assertEqual(chains.chains_of(LOOP, 6, 7), ())
        self.assertEqual(chains.chains_of(DOUBLE, 2, 2), ((0, (ALONG, (-1, (1,)))), (1, (AGAINST, (1, (1,))))))
        self.assertEqual(chains.chains_of(LINE, 2, 10 ** 30), ())

    def test_drawn(self):
        met = 0
        for plan in naive.plans_for(432, 60, 4) + [RING, TAILED]:
            told = {}
            for chain in naive_chains.all_chains(plan, 3):
                key = (len(chain[1]), sum(len(row) for _, row in chain[1]))
                told.setdefault(key, set()).add(min(chain, naive_chains.about(plan, chain)))
            for steps in range(4):
                for arrows in range(12):
                    rows = sorted(told.get((steps, arrows), ()))
                    self.assertEqual(chains.chains_of(plan, steps, arrows), tuple(rows))
                    met += len(rows)
        self.assertGreater(met, 800)

    def test_bounds(self):
        told = chains.chains_of(beside(*JUST[0]), 6, 9)
        self.assertEqual(len(told), 2000)
        self.assertEqual(len(told), sum(len(chains.chains_of(plan, 6, 9)) for plan in JUST[0]))
        self.assertEqual(sum(len(chains.chains_of(plan, 5, 12)) for plan in JUST[1]), 2001)
        self.assertEqual(raised(chains.chains_of, beside(*JUST[1]), 5, 12), ("TooGreat", 2000))

    def test_too_great(self):
        met = {}
        for plan in (naive.FULL, naive.GREAT, naive.WIDE):
            for steps in range(7):
                for arrows in (steps, steps + 1, steps + 4, 25, 40, 60, 100, 138, 139):
                    told = raised(chains.chains_of, plan, steps, arrows)
                    if told[0] == "TooGreat":
                        self.assertEqual(told, ("TooGreat", 2000))
                    else:
                        rows = told[1]
                        self.assertLessEqual(len(rows), 2000)
                        self.assertEqual(list(rows), sorted(set(rows)))
                        for chain in rows[:3] + rows[-3:]:
                            self.assertEqual(chains.check_chain(plan, chain), chain)
                            self.assertEqual(chains.chain_of(plan, chain), chain)
                            self.assertEqual(len(chain[1]), steps)
                            self.assertEqual(sum(len(row) for _, row in chain[1]), arrows)
                    kind = "great" if told[0] == "TooGreat" else len(told[1]) > 1000
                    met[kind] = met.get(kind, 0) + 1
        self.assertGreater(min(met["great"], met[True], met[False]), 2, met)


if __name__ == "__main__":
    unittest.main()
