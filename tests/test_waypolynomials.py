"""[91] Polynomials of tables of ways and of pairs of holes."""

import itertools
import random
import unittest

from stringrooms import waypolynomials
from stringrooms.threads import hole_pairs
from stringrooms.waytables import way_determinant, way_table
from tests import naive
from tests.naive import DOUBLE, FORK, LINE, LINE_NOUGHT, LOOP, POINT, RING, TWELVE
from tests.test_farrests import MEETING
from tests.test_waytables import TWO_RING, determinant


def times(one, other):
    told = [0] * (len(one) + len(other) - 1)
    for i, a in enumerate(one):
        for j, b in enumerate(other):
            told[i + j] += a * b
    return told


def power(row, many):
    told = [1]
    for _ in range(many):
        told = times(told, row)
    return told


def by_places(plan):
    """The determinant of x times the table plus it turned over, by all rows of places."""
    table, told = way_table(plan), [0] * (plan[0] + 1)
    for order in itertools.permutations(range(plan[0])):
        part = [(-1) ** sum(order[i] > order[j] for i in range(plan[0]) for j in range(i + 1, plan[0]))]
        for p, q in enumerate(order):
            part = times(part, [table[q][p], table[p][q]])
        told = [a + b for a, b in zip(told, part)]
    return tuple(told)


class WayPolynomials(unittest.TestCase):
    def test_by_hand(self):
        self.assertEqual(waypolynomials.way_polynomial(POINT), (1, 1))
        self.assertEqual(waypolynomials.way_polynomial(LOOP), (2, 2))
        self.assertEqual(waypolynomials.way_polynomial(DOUBLE), (1, -2, 1))
        self.assertEqual(waypolynomials.way_polynomial(LINE), (1, 1, 1, 1))
        self.assertEqual(waypolynomials.way_polynomial(LINE_NOUGHT), (1, 1, 1, 1))
        self.assertEqual(waypolynomials.way_polynomial(FORK), (1, 1, 1, 1))
        self.assertEqual(waypolynomials.way_polynomial(RING), (2, 0, 0, 2))
        self.assertEqual(waypolynomials.way_polynomial(TWO_RING), (0, 0, 0))
        self.assertEqual(waypolynomials.way_polynomial(TWELVE), tuple(power([1, 1], 12)))

    def test_drawn(self):
        for plan in naive.plans_for(410, 100, 5) + [RING, MEETING, TWO_RING]:
            if plan[0] <= 5:
                self.assertEqual(waypolynomials.way_polynomial(plan), by_places(plan))

    def test_greater_plans(self):
        for plan in naive.drawn_plans(411, 40, 12, 6) + [naive.FULL, naive.GREAT, naive.WIDE]:
            told, table = waypolynomials.way_polynomial(plan), way_table(plan)
            self.assertEqual(len(told), plan[0] + 1)
            self.assertEqual(told, told[::-1])
            self.assertEqual(told[-1], way_determinant(plan))
            left = times(told, power([-1, 1], plan[0]))
            right = times(power([-1, 1], len(plan[1])), waypolynomials.pair_polynomial(hole_pairs(plan)))
            many = max(len(left), len(right))
            self.assertEqual(left + [0] * (many - len(left)), right + [0] * (many - len(right)))
            if plan[0] <= 7:
                for x in (2, -3):
                    rows = [[x * a + b for a, b in zip(row, column)] for row, column in zip(table, zip(*table))]
                    self.assertEqual(determinant(rows), sum(c * x ** k for k, c in enumerate(told)))


class PairPolynomials(unittest.TestCase):
    def test_by_hand(self):
        told = waypolynomials.pair_polynomial
        self.assertEqual(told(()), (1,))
        self.assertEqual(told(((1, 1),)), (-1, 1))
        self.assertEqual(told(((1, 0),)), (1, 1))
        self.assertEqual(told(((3, 0),)), (1, 0, 0, 1))
        self.assertEqual(told(((2, 1), (2, 0))), (-1, 0, 0, 0, 1))
        self.assertEqual(told(((0, 3),)), (2,))
        self.assertEqual(told(((0, 2),)), (0,))
        self.assertEqual(told(((0, 0), (5, 5))), (0,))
        self.assertEqual(told(((5, 5), (0, 10 ** 30))), (0,))
        self.assertEqual(told(((0, 1), (1, 10 ** 30 + 1), (0, 7))), (-4, 4))

    def test_drawn(self):
        rng = random.Random(412)
        for _ in range(200):
            pairs = tuple((rng.randint(0, 5), rng.randint(0, 5)) for _ in range(rng.randint(0, 5)))
            told = waypolynomials.pair_polynomial(pairs)
            for x in (-2, -1, 0, 1, 3):
                worth = 1
                for n, m in pairs:
                    worth *= x ** n - (-1) ** (n + m)
                self.assertEqual(sum(c * x ** k for k, c in enumerate(told)), worth)
            self.assertTrue(told == (0,) or told[-1] != 0)


if __name__ == "__main__":
    unittest.main()
