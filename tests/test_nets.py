"""[60], [61] Nets, and the table of maps between all strings."""

import random
import unittest

from stringrooms import nets, translating
from stringrooms.forms import beside, parts_of
from stringrooms.layers import hull_of
from stringrooms.pieces import map_number
from stringrooms.rests import cover_of
from stringrooms.rounds import all_strings, has_bands
from stringrooms.walks import turned
from tests import naive, naive_bends
from tests.naive import CHAINED, DOUBLE, LINE, LOOP, POINT, raised

def without_bands(seed, many, most=5, strings=400):
    """Plans without bands and with few strings."""
    return [plan for plan in naive.plans_for(seed, many, most)
            if not has_bands(plan) and raised(all_strings, plan)[0] != "TooGreat" and len(all_strings(plan)) <= strings]


ALL = ("net", "net_steps", "meshes", "covers_in", "hulls_in", "net_parts", "map_table")


def every_call(plan):
    calls = [raised(getattr(nets, name), plan) for name in ALL]
    return calls + [raised(nets.distance, plan, (0, ()), (0, ())), raised(nets.knits, plan, None)]


class Nets(unittest.TestCase):
    def test_by_hand(self):
        self.assertEqual(nets.net(LINE), ((0, ()), (0, (0,)), (0, (0, 1)), (1, ()), (1, (1,)), (2, ())))
        self.assertEqual(nets.net_steps(LINE), ((1, 0), (2, 1), (3, 1), (4, 2), (4, 3), (5, 4)))
        self.assertEqual(nets.meshes(LINE), ((3, (1,), 0), (4, (2, 3), 1), (5, (4,), 3)))
        self.assertEqual(nets.covers_in(LINE), (2, 4, 5))
        self.assertEqual(nets.hulls_in(LINE), (0, 1, 2))
        self.assertEqual(nets.distance(LINE, (2, ()), (0, ())), 4)
        self.assertEqual(nets.distance(LINE, (2, (-2,)), (1, (-1,))), 2)
        self.assertEqual(nets.distance(LINE, (1, ()), (1, ())), 0)
        self.assertIsNone(nets.distance(LINE, (0, ()), (2, ())))
        self.assertEqual(nets.net_parts(LINE), ((0, 1, 2, 3, 4, 5),))
        self.assertEqual(nets.net_parts(naive.TWELVE), tuple((p,) for p in range(12)))
        self.assertEqual(nets.net_steps(POINT), ())
        self.assertEqual(nets.meshes(POINT), ())
        self.assertEqual(nets.net(LOOP), ((0, ()), (0, (-1,))))
        self.assertEqual(nets.net_steps(LOOP), ((0, 1), (1, 0)))
        self.assertEqual(nets.meshes(LOOP), ((0, (1,), 0),))

    def test_drawn(self):
        rng = random.Random(230)
        for plan in without_bands(230, 120):
            strings = nets.net(plan)
            self.assertEqual(strings, all_strings(plan))
            number = {one: k for k, one in enumerate(strings)}
            steps = sorted((number[one], number[x]) for one in strings for x in translating.middle(plan, one))
            self.assertEqual(nets.net_steps(plan), tuple(steps))
            told = [(number[one], tuple(sorted(number[x] for x in translating.middle(plan, one))),
                     number[translating.forth(plan, one)])
                    for one in strings if translating.forth(plan, one) is not None]
            self.assertEqual(nets.meshes(plan), tuple(told))
            self.assertEqual(nets.covers_in(plan), tuple(number[naive_bends.cover(plan, p)] for p in range(plan[0])))
            self.assertEqual(nets.hulls_in(plan), tuple(number[hull_of(plan, p)] for p in range(plan[0])))
            for _ in range(4):
                one, other = rng.choice(strings), rng.choice(strings)
                far, lot = 0, {number[one]}
                while number[other] not in lot:
                    more = lot | {b for a, b in steps if a in lot}
                    far, lot = (far + 1, more) if more != lot else (None, more | {number[other]})
                self.assertEqual(nets.distance(plan, one, other), far)
                self.assertEqual(nets.distance(plan, turned(plan, one), turned(plan, other)), far)

    def test_parts(self):
        for plan in without_bands(231, 120):
            steps, lots = nets.net_steps(plan), {k: {k} for k in range(len(nets.net(plan)))}
            for a, b in steps:
                if lots[a] is not lots[b]:
                    lots[a] |= lots[b]
                    for k in lots[b]:
                        lots[k] = lots[a]
            told = sorted({tuple(sorted(lot)) for lot in lots.values()})
            self.assertEqual(nets.net_parts(plan), tuple(told))
            self.assertEqual(len(told), len(parts_of(plan)))

    def test_endless_ahead_of_too_great(self):
        for plan in (DOUBLE, CHAINED, beside(naive.GREAT, DOUBLE), naive.FULL):
            self.assertEqual(every_call(plan), [("Endless",)] * 9)

    def test_2000_strings_and_more(self):
        self.assertEqual(every_call(naive.GREAT), [("TooGreat", 2000)] * 9)
        self.assertEqual(every_call(beside(naive.NEARLY_2000, naive.FIFTY)), [("TooGreat", 2000)] * 9)
        self.assertEqual(len(nets.net(beside(naive.NEARLY_2000, (4, (), ())))), 1955)
        self.assertEqual(len(nets.net(naive.WIDE)), 1787)
        self.assertEqual(len(nets.net_parts(naive.WIDE)), len(parts_of(naive.WIDE)))
        self.assertEqual(raised(nets.map_table, naive.WIDE), ("TooGreat", 100))


class Tables(unittest.TestCase):
    def test_by_hand(self):
        self.assertEqual(nets.map_table(POINT), ((1,),))
        self.assertEqual(nets.map_table(LOOP), ((1, 1), (1, 2)))
        self.assertEqual(nets.map_table(LINE), ((1, 0, 0, 0, 0, 0), (1, 1, 0, 0, 0, 0), (1, 1, 1, 0, 0, 0),
                                                (0, 1, 0, 1, 0, 0), (0, 1, 1, 1, 1, 0), (0, 0, 1, 0, 1, 1)))
        self.assertIs(nets.knits(POINT, ((1,),)), True)
        self.assertIs(nets.knits(POINT, ((2,),)), False)
        self.assertIs(nets.knits(LOOP, ((1, 1), (1, 2))), True)

    def test_drawn(self):
        rng = random.Random(232)
        for plan in without_bands(232, 120, 5, 100):
            strings, told = nets.net(plan), nets.map_table(plan)
            self.assertEqual(told, tuple(tuple(map_number(plan, a, b) for b in strings) for a in strings))
            self.assertIs(nets.knits(plan, told), True)
            # Just one table does.
            for more in (1, -1, 10 ** 40):
                i, j = rng.randrange(len(told)), rng.randrange(len(told))
                row = told[i][:j] + (told[i][j] + more,) + told[i][j + 1:]
                self.assertIs(nets.knits(plan, told[:i] + (row,) + told[i + 1:]), False)
            self.assertIs(nets.knits(plan, tuple((0,) * len(told) for _ in told)), False)
            flipped = tuple(zip(*told))
            self.assertIs(nets.knits(plan, flipped), flipped == told)
            if len(told) > 1:
                self.assertIs(nets.knits(plan, (told[1], told[0]) + told[2:]), False)

    def test_100_strings_and_101(self):
        for many in (99, 100, 101, 102):
            plan = beside(naive.NEARLY_100, (many - 97, (), ()))
            self.assertEqual(len(nets.net(plan)), many)
            if many <= 100:
                told = nets.map_table(plan)
                self.assertEqual(len(told), many)
                self.assertIs(nets.knits(plan, told), True)
                self.assertIs(nets.knits(plan, None), False)
            else:
                self.assertEqual(raised(nets.map_table, plan), ("TooGreat", 100))
                self.assertEqual(raised(nets.knits, plan, None), ("TooGreat", 100))
            self.assertEqual(len(nets.covers_in(plan)), plan[0])

    def test_wrong_rows(self):
        told = nets.map_table(LOOP)
        for value in naive.ODD_VALUES + (list(told), told[:1], told + ((1, 2),), (told[0], told[1] + (1,)),
                                         (told[0], (1,)), (told[0], list(told[1])), (told[0], (True, 2)),
                                         (told[0], (1, 2.0)), (told[0], (1, "2")), (told[0], (None, 1)), "12"):
            self.assertIs(nets.knits(LOOP, value), False, value)
        for value in naive.ODD_VALUES + (((True,),), ((1, 1),), (1,), ("1",), ((1.0,),)):
            self.assertIs(nets.knits(POINT, value), False, value)


if __name__ == "__main__":
    unittest.main()
