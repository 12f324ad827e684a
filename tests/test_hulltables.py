"""[90] Hull tables and their powers."""

import math
import operator
import random
import unittest
from fractions import Fraction

from stringrooms import hulltables
from stringrooms.layers import hull_of
from stringrooms.peace import sign_of
from stringrooms.pieces import map_number
from stringrooms.plans import turned_plan
from stringrooms.rests import cover_of
from stringrooms.threads import hole_pairs
from stringrooms.translating import back
from stringrooms.walks import sizes_of
from stringrooms.waytables import undone_ways, way_determinant, way_table
from stringrooms.ways import nought_rounds
from tests import naive
from tests.naive import CHAINED, DOUBLE, LINE, LINE_NOUGHT, LOOP, POINT, RING, TAILED, TWELVE, raised
from tests.test_farrests import MEETING
from tests.test_waytables import TWO_RING

GREAT = 10 ** 30


def product(one, other):
    return [[sum(a * b for a, b in zip(row, column)) for column in zip(*other)] for row in one]


def fractions(table):
    return [[Fraction(x, table[1]) for x in row] for row in table[0]]


def plain(size):
    return [[Fraction(int(p == q)) for q in range(size)] for p in range(size)]


def sample(seed, many, most=6):
    """Plans whose table of ways can be undone."""
    plans = naive.plans_for(seed, many, most) + [RING, naive.FULL] + naive.drawn_plans(seed + 1, 20, 12, 8)
    return [plan for plan in plans if way_determinant(plan)]


class Tables(unittest.TestCase):
    def test_by_hand(self):
        self.assertEqual(hulltables.hull_table(POINT), (((-1,),), 1))
        self.assertEqual(hulltables.hull_table(LOOP), (((-1,),), 1))
        self.assertEqual(hulltables.hull_table(DOUBLE), (((3, 2), (-2, -1)), 1))
        self.assertEqual(hulltables.hull_table(LINE), (((0, 1, 0), (0, 0, 1), (-1, -1, -1)), 1))
        self.assertEqual(hulltables.hull_table((2, ((0, 1),), ())), (((0, 1), (-1, -1)), 1))
        self.assertEqual(hulltables.hull_table(RING), (((0, 0, -1), (-1, 0, 0), (0, -1, 0)), 1))
        # A round row of noughts of one arrow: the table of ways is undone by halves.
        plan = (2, ((0, 0), (0, 1)), ((0, 0),))
        self.assertEqual(way_table(plan), ((2, 2), (0, 1)))
        self.assertEqual(hulltables.hull_table(plan), (((1, 1), (-2, -1)), 1))

    def test_definition(self):
        halves = 0
        for plan in sample(400, 100):
            rows, below = hulltables.hull_table(plan)
            self.assertEqual(math.gcd(below, *[x for row in rows for x in row]), 1)
            self.assertGreaterEqual(below, 1)
            about = [[-Fraction(x) for x in column] for column in zip(*way_table(plan))]
            self.assertEqual(product(way_table(plan), fractions((rows, below))), about)
            halves += undone_ways(plan)[1] == 2
            for p in range(plan[0]):
                hull = tuple(-x for x in sizes_of(plan, hull_of(plan, p)))
                self.assertEqual(hulltables.led_sizes(plan, sizes_of(plan, cover_of(plan, p)), 1), (hull, 1))
        self.assertGreater(halves, 10)

    def test_no_way(self):
        met = 0
        for plan in naive.plans_for(401, 150) + [TWO_RING, MEETING]:
            told = any(len(row) % 2 == 0 for row in nought_rounds(plan))
            met += told
            calls = [raised(hulltables.hull_table, plan), raised(hulltables.hull_order, plan)]
            for number in (0, 1, -1, GREAT, -GREAT):
                calls.append(raised(hulltables.hull_power, plan, number))
                calls.append(raised(hulltables.led_sizes, plan, (1,) * plan[0], number))
            for call in calls:
                self.assertEqual(call == ("NoWay",), told)
        self.assertGreater(met, 5)


class Powers(unittest.TestCase):
    def test_by_hand(self):
        self.assertEqual(hulltables.hull_power(POINT, GREAT), (((1,),), 1))
        self.assertEqual(hulltables.hull_power(POINT, 1 - GREAT), (((-1,),), 1))
        self.assertEqual(hulltables.hull_power(LINE, 0), (((1, 0, 0), (0, 1, 0), (0, 0, 1)), 1))
        for n in (0, 1, -1, 5, -7, GREAT, -GREAT, GREAT - 1):
            self.assertEqual(hulltables.hull_power(DOUBLE, n), (((1 + 2 * n, 2 * n), (-2 * n, 1 - 2 * n)), 1))
            self.assertEqual(hulltables.led_sizes(DOUBLE, (1, 0), n), ((1 + 2 * n, 2 * n), 1))
            self.assertEqual(hulltables.led_sizes(DOUBLE, (-GREAT, GREAT), n)[0], (-GREAT * (1 + 4 * n), GREAT * (1 - 4 * n)))
            turned = hulltables.hull_power(RING, n)
            self.assertEqual(turned, hulltables.hull_power(RING, n % 6))

    def test_step_by_step(self):
        for plan in sample(402, 40):
            one, table = plain(plan[0]), fractions(hulltables.hull_table(plan))
            told = one
            for number in range(6):
                self.assertEqual(fractions(hulltables.hull_power(plan, number)), told)
                self.assertEqual(product(told, fractions(hulltables.hull_power(plan, -number))), one)
                told = product(told, table)

    def test_great_numbers(self):
        rng = random.Random(403)
        grown = 0
        for plan in sample(404, 60) + [TAILED, CHAINED]:
            a, b = rng.randint(-GREAT, GREAT), rng.choice((-1, 1)) * rng.randint(0, 40)
            for low, high in ((a, b), (GREAT, -rng.randint(0, 10 ** 6)), (-GREAT, rng.randint(0, GREAT))):
                tables = [fractions(hulltables.hull_power(plan, n)) for n in (low, high, low + high)]
                self.assertEqual(product(*tables[:2]), tables[2])
            rows, below = hulltables.hull_power(plan, GREAT)
            self.assertEqual(math.gcd(below, *[x for row in rows for x in row]), 1)
            grown += max(abs(x) for row in rows for x in row) >= GREAT
            about = hulltables.hull_power(turned_plan(plan), GREAT)
            self.assertEqual(about, hulltables.hull_power(plan, -GREAT))
        self.assertGreater(grown, 5)

    def test_led_sizes(self):
        rng = random.Random(405)
        for plan in sample(406, 60):
            sizes = tuple(rng.randint(-9, 9) for _ in range(plan[0]))
            for number in (0, 1, -3, GREAT):
                row, below = hulltables.led_sizes(plan, sizes, number)
                self.assertEqual(math.gcd(below, *row), 1)
                told = product([[Fraction(x) for x in sizes]], fractions(hulltables.hull_power(plan, number)))
                self.assertEqual([[Fraction(x, below) for x in row]], told)
        self.assertEqual(hulltables.led_sizes(TWELVE, (0,) * 12, 7), ((0,) * 12, 1))

    def test_fact_of_back(self):
        rng = random.Random(407)
        for plan in sample(408, 60):
            table = way_table(plan)
            for _ in range(3):
                w = naive.drawn_walk(rng, plan)
                there, signs = back(plan, w), sign_of(plan, w)
                for p in range(plan[0]):
                    told = map_number(plan, w, cover_of(plan, p)) - sum(map(operator.mul, signs, table[p]))
                    self.assertEqual(told, 0 if there is None else sizes_of(plan, there)[p])


class Orders(unittest.TestCase):
    def test_by_hand(self):
        self.assertEqual(hulltables.hull_order(POINT), 2)
        self.assertEqual(hulltables.hull_order(TWELVE), 2)
        self.assertEqual(hulltables.hull_order(LOOP), 2)
        self.assertEqual(hulltables.hull_order((2, ((0, 1),), ())), 3)
        self.assertEqual(hulltables.hull_order(LINE), 4)
        self.assertEqual(hulltables.hull_order(LINE_NOUGHT), 4)
        self.assertEqual(hulltables.hull_order(RING), 6)
        self.assertIsNone(hulltables.hull_order(DOUBLE))

    def test_step_by_step(self):
        met = {}
        for plan in sample(409, 90, 5):
            told = hulltables.hull_order(plan)
            met[told] = met.get(told, 0) + 1
            one, table = plain(plan[0]), fractions(hulltables.hull_table(plan))
            bound = 2 * math.lcm(1, *[n for n, _ in hole_pairs(plan) if n])
            power, number = table, 1
            while power != one and number < min(bound, 40):
                power, number = product(power, table), number + 1
            if power == one:
                self.assertEqual(told, number)
            elif bound <= 40:
                self.assertIsNone(told)
            if told is None:
                self.assertNotEqual(hulltables.hull_power(plan, bound), hulltables.hull_power(plan, 0))
            else:
                self.assertEqual(bound % told, 0)
                self.assertEqual(hulltables.hull_power(plan, told * 10 ** 25), hulltables.hull_power(plan, 0))
        self.assertGreaterEqual(len(met), 8, met)
        self.assertGreater(met[None], 20)


if __name__ == "__main__":
    unittest.main()
