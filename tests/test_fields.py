"""[25], [26], [27] Numbers modulo a prime, polynomials, and rows."""

import itertools
import random
import unittest

from stringrooms import fields
from tests import naive
from tests.naive import PRIMES, raised


def times(prime, one, other):
    """The product, from all numbers of both with the one of the highest power."""
    told = [0] * (len(one) + len(other) + 1)
    for i, a in enumerate(one + (1,)):
        for j, b in enumerate(other + (1,)):
            told[i + j] = (told[i + j] + a * b) % prime
    return tuple(told[:-1])


def monic(prime, degree):
    return list(itertools.product(range(prime), repeat=degree))


def irreducible(prime, most):
    """All irreducible polynomials of degree 1 to most, by striking out products."""
    products = {times(prime, a, b) for d in range(1, most) for e in range(1, most - d + 1)
                for a in monic(prime, d) for b in monic(prime, e)}
    return [p for d in range(1, most + 1) for p in monic(prime, d) if p not in products]


def sums(prime, rows, width):
    """All sums of rows, as a set."""
    told = {(0,) * width}
    for row in rows:
        told = {tuple((a + k * b) % prime for a, b in zip(one, row)) for one in told for k in range(prime)}
    return told


def led(prime, row, table, width):
    return tuple(sum(a * line[k] for a, line in zip(row, table)) % prime for k in range(width))


def drawn_table(rng, prime, many, width, few=False):
    low = 0.6 if few else 0.0
    return tuple(tuple(0 if rng.random() < low else rng.randrange(prime) for _ in range(width)) for _ in range(many))


class Checks(unittest.TestCase):
    def test_check_prime(self):
        for prime in PRIMES:
            self.assertEqual(fields.check_prime(prime), prime)
        for value in naive.ODD_VALUES + (4, 6, 9, 11, -2, "2", 2.0, (2,)):
            self.assertEqual(raised(fields.check_prime, value), ("NotName", "prime"))

    def test_check_poly(self):
        for prime in PRIMES:
            for good in ((1,), (1,) * 12, (prime - 1, 0, 0), (1, 0)):
                self.assertIs(fields.check_poly(prime, good), good)
            for bad in naive.ODD_VALUES + ((0,), (0, 1), (1,) * 13, (prime,), (1, prime), (-1,), (1, -1), (True,),
                                           (1, False), [1], (1, None), ("1",), (1.0,), "1"):
                if isinstance(bad, tuple) and bad and all(type(x) is int and 0 < x < prime for x in bad[:12]) \
                        and len(bad) < 13:
                    continue
                self.assertEqual(raised(fields.check_poly, prime, bad), ("NotPoly",), (prime, bad))

    def test_check_poly_true_is_none(self):
        self.assertEqual(raised(fields.check_poly, 2, (True,)), ("NotPoly",))
        self.assertEqual(raised(fields.check_poly, 2, (1, True)), ("NotPoly",))

    def test_undone_number(self):
        for prime in PRIMES:
            for number in list(range(-20, 21)) + [10 ** 30, -10 ** 30 - 1, prime * 10 ** 20]:
                if number % prime == 0:
                    self.assertEqual(raised(fields.undone_number, prime, number), ("NoWay",))
                else:
                    told = fields.undone_number(prime, number)
                    self.assertTrue(1 <= told < prime)
                    self.assertEqual(told * number % prime, 1)


class Polynomials(unittest.TestCase):
    def test_times(self):
        self.assertEqual(fields.poly_times(5, (), ()), ())
        self.assertEqual(fields.poly_times(5, (2, 3), ()), (2, 3))
        self.assertEqual(fields.poly_times(5, (0,), (0,)), (0, 0))
        self.assertEqual(fields.poly_times(2, (1,), (1,)), (1, 0))
        rng = random.Random(70)
        for _ in range(200):
            prime = rng.choice(PRIMES)
            one, other = (tuple(rng.randrange(prime) for _ in range(rng.randint(0, 12))) for _ in range(2))
            self.assertEqual(fields.poly_times(prime, one, other), times(prime, one, other))

    def test_power(self):
        self.assertEqual(fields.poly_power(3, (2,), 0), ())
        self.assertEqual(fields.poly_power(3, (), 10 ** 30), ())
        self.assertEqual(len(fields.poly_power(3, (2,), 60)), 60)
        self.assertEqual(len(fields.poly_power(7, (1,) * 12, 5)), 60)
        self.assertEqual(raised(fields.poly_power, 3, (2,), 61), ("TooGreat", 60))
        self.assertEqual(raised(fields.poly_power, 3, (2,), 10 ** 30), ("TooGreat", 60))
        self.assertEqual(raised(fields.poly_power, 7, (1,) * 12, 6), ("TooGreat", 60))
        rng = random.Random(71)
        for _ in range(60):
            prime = rng.choice(PRIMES)
            one = tuple(rng.randrange(prime) for _ in range(rng.randint(0, 5)))
            told = ()
            for steps in range(8):
                self.assertEqual(fields.poly_power(prime, one, steps), told)
                told = times(prime, told, one)

    def test_irreducible_ones(self):
        for prime, most in ((2, 6), (3, 4), (5, 3), (7, 3)):
            every = irreducible(prime, most)
            for degree in range(1, most + 1):
                of_degree = [p for p in every if len(p) == degree]
                self.assertEqual(fields.irreducible_number(prime, degree), len(of_degree))
                self.assertEqual(fields.irreducibles(prime, degree), tuple(p for p in of_degree if p != (0,)))
                for poly in monic(prime, degree)[:300]:
                    self.assertIs(fields.is_irreducible(prime, poly), poly in of_degree)

    def test_irreducible_numbers(self):
        self.assertEqual(fields.irreducible_number(2, 1), 2)
        self.assertEqual(fields.irreducible_number(7, 1), 7)
        self.assertEqual(fields.irreducible_number(2, 12), 335)
        for prime in PRIMES:
            for steps in range(1, 61):
                total = sum(d * fields.irreducible_number(prime, d) for d in range(1, steps + 1) if steps % d == 0)
                self.assertEqual(total, prime ** steps)

    def test_irreducibles_bounds(self):
        for prime, last in ((2, 9), (3, 5), (5, 4), (7, 3)):
            told = fields.irreducibles(prime, last)
            self.assertEqual(len(told), fields.irreducible_number(prime, last))
            self.assertEqual(list(told), sorted(told))
            for steps in (last + 1, 60):
                self.assertEqual(raised(fields.irreducibles, prime, steps), ("TooGreat", 700))
        self.assertEqual(fields.irreducibles(5, 1), ((1,), (2,), (3,), (4,)))

    def test_irreducibles_are_just_those(self):
        for prime in PRIMES:
            steps = 1
            while prime ** steps <= 700:
                told = fields.irreducibles(prime, steps)
                fitting = [p for p in monic(prime, steps) if p != (0,) and fields.is_irreducible(prime, p)]
                self.assertEqual(told, tuple(fitting))
                self.assertEqual(len(told), fields.irreducible_number(prime, steps) - (steps == 1))
                steps += 1
            for more in range(steps, 61):
                self.assertEqual(raised(fields.irreducibles, prime, more), ("TooGreat", 700))

    def test_irreducibles_asked_often(self):
        # Asked some hundreds of times each, they come to an end.
        for prime, steps in ((2, 9), (3, 5), (5, 4), (7, 3)):
            first = fields.irreducibles(prime, steps)
            for _ in range(300):
                self.assertEqual(fields.irreducibles(prime, steps), first)

    def test_factors(self):
        self.assertEqual(fields.factors(3, ()), ())
        self.assertEqual(fields.factors(3, (0,)), (((0,), 1),))
        self.assertEqual(fields.factors(2, (0, 0, 1, 1)), (((0,), 2), ((1, 1), 1)))
        self.assertEqual(fields.factors(2, (1, 0, 0, 0, 0, 0, 0, 0)), (((1,), 8),))
        self.assertEqual(fields.factors(3, (2, 0, 0, 0, 0, 0, 0, 0, 0)), (((2,), 9),))
        rng = random.Random(72)
        known = {2: irreducible(2, 5), 3: irreducible(3, 4), 5: irreducible(5, 2), 7: irreducible(7, 2)}
        for _ in range(300):
            prime = rng.choice(PRIMES)
            counts = {}
            poly = ()
            while True:
                factor = rng.choice(known[prime])
                if len(poly) + len(factor) > 12:
                    break
                for _ in range(rng.choice((1, 1, 2, 3))):
                    if len(poly) + len(factor) <= 12:
                        poly = times(prime, poly, factor)
                        counts[factor] = counts.get(factor, 0) + 1
            expected = tuple(sorted(counts.items(), key=lambda pair: (len(pair[0]), pair[0])))
            self.assertEqual(fields.factors(prime, poly), expected)

    def test_factors_of_drawn_ones(self):
        rng = random.Random(73)
        for _ in range(150):
            prime = rng.choice(PRIMES)
            poly = tuple(rng.randrange(prime) for _ in range(rng.randint(1, 12)))
            told, back = fields.factors(prime, poly), ()
            for factor, many in told:
                self.assertGreaterEqual(many, 1)
                self.assertTrue(fields.is_irreducible(prime, factor))
                for _ in range(many):
                    back = times(prime, back, factor)
            self.assertEqual(back, poly)
            self.assertEqual(list(told), sorted(set(told), key=lambda pair: (len(pair[0]), pair[0])))

    def test_power_of(self):
        self.assertEqual(fields.power_of(2, (1, 0)), ((1,), 2))
        self.assertEqual(fields.power_of(2, (1, 1)), ((1, 1), 1))
        for bad in ((), (0,), (0, 0), (0, 1)):
            self.assertEqual(raised(fields.power_of, 2, bad), ("NotPoly",))
        self.assertEqual(raised(fields.power_of, 3, (2, 0)), ("NotPoly",))
        for prime in PRIMES:
            for factor in [p for p in irreducible(prime, 2) if p != (0,)]:
                for many in range(1, 7):
                    self.assertEqual(fields.power_of(prime, fields.poly_power(prime, factor, many)), (factor, many))

    def test_undone(self):
        self.assertEqual(fields.undone(5, ()), ())
        self.assertEqual(fields.undone(5, (2,)), (3,))
        self.assertEqual(fields.undone(7, (3, 1)), (5, 5))
        self.assertEqual(raised(fields.undone, 5, (0,)), ("NotPoly",))
        self.assertEqual(raised(fields.undone, 5, (0, 1, 2)), ("NotPoly",))
        rng = random.Random(74)
        for _ in range(200):
            prime = rng.choice(PRIMES)
            poly = (rng.randrange(1, prime),) + tuple(rng.randrange(prime) for _ in range(rng.randint(0, 11)))
            told = fields.undone(prime, poly)
            # x^d F(1 / x) has the numbers of F in the other sequence.
            self.assertEqual([a * poly[0] % prime for a in told + (1,)], list((poly + (1,))[::-1]))
            self.assertEqual(fields.undone(prime, told), poly)


class Rows(unittest.TestCase):
    def test_empty_ones(self):
        self.assertEqual(fields.reduced((), 3), ())
        self.assertEqual(fields.reduced(((), (), ()), 3), ())
        self.assertEqual(fields.reduced(((0, 0), (0, 0)), 3), ())
        self.assertEqual(fields.rank((), 3), 0)
        self.assertEqual(fields.rank(((), ()), 3), 0)
        self.assertEqual(fields.kernel((), 3), ())
        self.assertEqual(fields.kernel(((), ()), 3), ((1, 0), (0, 1)))
        self.assertEqual(fields.kernel(((0,), (0,)), 3), ((1, 0), (0, 1)))

    def test_reduced(self):
        self.assertEqual(fields.reduced(((2, 1, 0), (1, 2, 1)), 3), ((1, 2, 0), (0, 0, 1)))
        self.assertEqual(fields.reduced(((0, 3), (2, 4)), 5), ((1, 0), (0, 1)))
        rng = random.Random(75)
        for _ in range(400):
            prime = rng.choice(PRIMES)
            many, width = rng.randint(0, 3), rng.randint(0, 4)
            rows = drawn_table(rng, prime, many, width, rng.random() < 0.5)
            told = fields.reduced(rows, prime)
            self.assertEqual(sums(prime, told, width), sums(prime, rows, width))
            leading = [next(k for k, a in enumerate(row) if a) for row in told]
            self.assertEqual(leading, sorted(set(leading)))
            for k, place in enumerate(leading):
                self.assertEqual([row[place] for row in told], [int(j == k) for j in range(len(told))])
            self.assertEqual(fields.rank(rows, prime), len(told))
            self.assertEqual(fields.reduced(told[::-1], prime), told)

    def test_kernel(self):
        self.assertEqual(fields.kernel(((1, 0), (1, 0), (0, 1)), 3), ((1, 2, 0),))
        rng = random.Random(76)
        for _ in range(300):
            prime = rng.choice(PRIMES)
            many, width = rng.randint(0, 4), rng.randint(0, 3)
            rows = drawn_table(rng, prime, many, width, rng.random() < 0.5)
            found = [row for row in itertools.product(range(prime), repeat=many) if not any(led(prime, row, rows, width))]
            told = fields.kernel(rows, prime)
            self.assertEqual(sums(prime, told, many), set(found))
            self.assertEqual(fields.reduced(told, prime), told)

    def test_great_ones(self):
        rng = random.Random(77)
        for prime in PRIMES:
            rows = drawn_table(rng, prime, 40, 60)
            base = fields.reduced(rows, prime)
            self.assertEqual(fields.reduced(rows[::-1] + rows, prime), base)
            none = fields.kernel(tuple(zip(*rows)), prime)
            self.assertEqual(len(none) + len(base), 60)
            for row in none:
                self.assertFalse(any(sum(a * b for a, b in zip(row, line)) % prime for line in rows))


if __name__ == "__main__":
    unittest.main()
