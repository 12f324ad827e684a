"""[108] Forms of units."""

import random
import unittest

from stringrooms import sizeforms
from stringrooms.farbends import bends_form
from stringrooms.farrests import rest_length
from stringrooms.duals import signed_ways
from stringrooms.waytables import way_table
from stringrooms.ways import nought_rounds
from tests import naive
from tests.naive import DOUBLE, LINE, LINE_NOUGHT, LOOP, POINT, RING, TAILED, TWELVE, raised
from tests.test_duals import TURNS
from tests.test_farrests import BOTH
from tests.test_threads import rows
from tests.test_waytables import TWO_RING, product


def sample(seed, many):
    return naive.plans_for(seed, many) + [RING, BOTH, TWO_RING, TURNS, naive.FULL, naive.GREAT, naive.THREE_HUNDRED]


class Forms(unittest.TestCase):
    def test_by_hand(self):
        self.assertEqual(sizeforms.form_table(POINT), ((1,),))
        self.assertEqual(sizeforms.form_table(LINE), ((1, -1, 0), (0, 1, -1), (0, 0, 1)))
        self.assertEqual(sizeforms.form_table(LINE_NOUGHT), ((1, -1, 1), (0, 1, -1), (0, 0, 1)))
        self.assertEqual(sizeforms.form_table(DOUBLE), ((1, -2), (0, 1)))
        self.assertEqual(sizeforms.form_table(TURNS), ((1, -1, 1), (0, 1, -1), (-1, 1, 0)))
        self.assertEqual(sizeforms.size_form(LINE_NOUGHT, (1, 2, 3), (4, 5, 6)), 4 - 5 + 6 + 2 * (5 - 6) + 3 * 6)
        self.assertEqual(sizeforms.size_form(DOUBLE, (10 ** 20, 0), (0, -10 ** 20)), 2 * 10 ** 40)
        self.assertEqual(sizeforms.own_form(DOUBLE, (1, 1)), 0)
        self.assertEqual(sizeforms.own_form(DOUBLE, (3, -2)), 25)
        self.assertEqual(sizeforms.own_form(TWELVE, (1,) * 12), 12)
        for plan in (LOOP, RING, BOTH, TWO_RING):
            zeros = (0,) * plan[0]
            self.assertEqual(raised(sizeforms.form_table, plan), ("Endless",))
            self.assertEqual(raised(sizeforms.size_form, plan, zeros, zeros), ("Endless",))
            self.assertEqual(raised(sizeforms.own_form, plan, zeros), ("Endless",))

    def test_drawn(self):
        rng = random.Random(530)
        met = {True: 0, False: 0}
        for plan in sample(531, 200):
            endless = bool(nought_rounds(plan))
            met[endless] += 1
            units, others = ([rng.randint(-9, 9) for _ in range(plan[0])] for _ in range(2))
            told = raised(sizeforms.form_table, plan)
            if endless:
                self.assertEqual(told, ("Endless",))
                self.assertEqual(raised(sizeforms.size_form, plan, tuple(units), tuple(others)), ("Endless",))
                continue
            table = [[int(p == q) for q in range(plan[0])] for p in range(plan[0])]
            for row in rows(plan, True):
                table[plan[1][row[0]][0]][plan[1][row[-1]][1]] += (-1) ** len(row)
            self.assertEqual(told[1], tuple(map(tuple, table)))
            self.assertEqual(told[1], signed_ways(plan))
            plain = [[int(p == q) for q in range(plan[0])] for p in range(plan[0])]
            self.assertEqual(product(table, way_table(plan)), plain)
            self.assertEqual(product(way_table(plan), table), plain)
            total = sum(units[p] * table[p][q] * others[q] for p in range(plan[0]) for q in range(plan[0]))
            self.assertEqual(sizeforms.size_form(plan, tuple(units), tuple(others)), total)
            self.assertEqual(sizeforms.own_form(plan, tuple(units)), sizeforms.size_form(plan, tuple(units), tuple(units)))
        self.assertGreater(min(met.values()), 50)

    def test_maps_less_bends(self):
        rng = random.Random(532)
        for plan in sample(533, 100) + [TAILED] * 3:
            if not nought_rounds(plan):
                for _ in range(4):
                    one, two = naive.drawn_walk(rng, plan, 7), naive.drawn_walk(rng, plan, 7)
                    units = [tuple(naive.points(plan, w).count(p) for p in range(plan[0])) for w in (one, two)]
                    self.assertIsNotNone(rest_length(plan, one))
                    self.assertEqual(sizeforms.size_form(plan, *units), bends_form(plan, one, two))


if __name__ == "__main__":
    unittest.main()
