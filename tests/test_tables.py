"""[27], [28], [29] Tables, lots of rows, polynomials of tables."""

import itertools
import random
import unittest

from stringrooms import fields, tables
from tests import naive
from tests.naive import PRIMES, raised
from tests.naive_rooms import drawn_square, drawn_table, eye, mul, rank, row_sums


def direct(prime, blocks):
    """Square tables put together along the diagonal."""
    size = sum(len(block) for block in blocks)
    rows, ahead = [], 0
    for block in blocks:
        rows += [(0,) * ahead + tuple(row) + (0,) * (size - ahead - len(block)) for row in block]
        ahead += len(block)
    return tuple(rows)


def by_permutations(prime, rows):
    """The determinant as the sum over all orders."""
    told = 0
    for order in itertools.permutations(range(len(rows))):
        sign = 1
        for i in range(len(order)):
            for j in range(i):
                sign = -sign if order[j] > order[i] else sign
        for i, j in enumerate(order):
            sign *= rows[i][j]
        told += sign
    return told % prime


class Tables(unittest.TestCase):
    def test_flipped(self):
        self.assertEqual(tables.flipped(((1, 2, 3), (4, 5, 6)), 3), ((1, 4), (2, 5), (3, 6)))
        self.assertEqual(tables.flipped((), 2), ((), ()))
        self.assertEqual(tables.flipped(((), ()), 0), ())
        self.assertEqual(tables.flipped((), 0), ())

    def test_times(self):
        self.assertEqual(tables.times(((1, 2), (0, 1)), ((1, 1, 0), (2, 0, 2)), 3, 3), ((2, 1, 1), (2, 0, 2)))
        self.assertEqual(tables.times(((), ()), (), 3, 2), ((0, 0), (0, 0)))
        self.assertEqual(tables.times((), ((1, 2),), 3, 2), ())
        self.assertEqual(tables.times(((1,), (2,)), ((),), 3, 0), ((), ()))
        rng = random.Random(90)
        for _ in range(200):
            prime = rng.choice(PRIMES)
            a, b, c = rng.randint(0, 4), rng.randint(0, 4), rng.randint(0, 4)
            one, other = drawn_table(rng, prime, a, b), drawn_table(rng, prime, b, c)
            told = tables.times(one, other, prime, c)
            self.assertEqual(told, mul(prime, one, other, c))
            self.assertEqual(tables.times(tables.flipped(other, c), tables.flipped(one, b), prime, a),
                             tables.flipped(told, c))

    def test_one(self):
        self.assertEqual(tables.one(0), ())
        self.assertEqual(tables.one(3), ((1, 0, 0), (0, 1, 0), (0, 0, 1)))

    def test_solved(self):
        self.assertEqual(tables.solved((), 3, ()), ())
        self.assertEqual(tables.solved((), 3, (0, 0)), ())
        self.assertEqual(raised(tables.solved, (), 3, (0, 1)), ("NoWay",))
        self.assertEqual(tables.solved(((), ()), 3, ()), (0, 0))
        self.assertEqual(tables.solved(((1, 2), (2, 1), (0, 1)), 3, (1, 0)), (1, 0, 1))
        self.assertEqual(tables.solved(((0, 0), (0, 2)), 5, (0, 1)), (0, 3))
        rng = random.Random(91)
        seen = {True: 0, False: 0}
        for _ in range(400):
            prime = rng.choice(PRIMES)
            many, width = rng.randint(0, 4), rng.randint(1, 3)
            rows = drawn_table(rng, prime, many, width, 0.3)
            goal = drawn_table(rng, prime, 1, width, 0.3)[0]
            independent = [k for k in range(many) if rank(prime, rows[:k + 1]) > rank(prime, rows[:k])]
            found = [row for row in itertools.product(range(prime), repeat=many)
                     if mul(prime, (row,), rows, width)[0] == goal
                     and not any(row[k] for k in range(many) if k not in independent)]
            self.assertEqual(raised(tables.solved, rows, prime, goal),
                             ("nothing raised", found[0]) if found else ("NoWay",))
            self.assertLessEqual(len(found), 1)
            seen[bool(found)] += 1
        self.assertGreater(min(seen.values()), 50)

    def test_undo_and_determinant(self):
        self.assertEqual(tables.undo((), 3), ())
        self.assertEqual(tables.determinant((), 3), 1)
        self.assertEqual(tables.undo(((2, 0), (1, 1)), 3), ((2, 0), (1, 1)))
        self.assertEqual(raised(tables.undo, ((0,),), 3), ("NoWay",))
        self.assertEqual(raised(tables.undo, ((1, 2), (2, 1)), 3), ("NoWay",))
        rng = random.Random(92)
        for _ in range(300):
            prime = rng.choice(PRIMES)
            size = rng.randint(0, 5)
            rows = drawn_table(rng, prime, size, size, 0.3)
            number = tables.determinant(rows, prime)
            self.assertEqual(number, by_permutations(prime, rows))
            if number:
                back = tables.undo(rows, prime)
                self.assertEqual(mul(prime, rows, back, size), eye(size))
                self.assertEqual(mul(prime, back, rows, size), eye(size))
            else:
                self.assertEqual(raised(tables.undo, rows, prime), ("NoWay",))

    def test_power(self):
        self.assertEqual(tables.power((), 5, 10 ** 30), ())
        self.assertEqual(tables.power(((0, 1), (0, 0)), 5, 0), ((1, 0), (0, 1)))
        self.assertEqual(tables.power(((0, 1), (0, 0)), 5, 10 ** 30), ((0, 0), (0, 0)))
        self.assertEqual(tables.power(((1, 1), (0, 1)), 7, 10 ** 30), ((1, 10 ** 30 % 7), (0, 1)))
        rng = random.Random(93)
        for _ in range(40):
            prime = rng.choice(PRIMES)
            size = rng.randint(1, 4)
            rows, told = drawn_table(rng, prime, size, size), eye(size)
            for steps in range(9):
                self.assertEqual(tables.power(rows, prime, steps), told)
                told = mul(prime, told, rows, size)
            one, other = rng.randrange(10 ** 30), rng.randrange(10 ** 15)
            self.assertEqual(tables.power(rows, prime, one + other),
                             mul(prime, tables.power(rows, prime, one), tables.power(rows, prime, other), size))


class Lots(unittest.TestCase):
    def test_empty_ones(self):
        self.assertEqual(tables.span((), (), 3), ())
        self.assertEqual(tables.meet((), ((1, 0),), 3), ())
        self.assertEqual(tables.meet(((1, 0),), (), 3), ())
        self.assertEqual(tables.meet(((), ()), ((),), 3), ())
        self.assertEqual(tables.free_places((), 3, 3), (0, 1, 2))
        self.assertEqual(tables.free_places(((),), 3, 0), ())
        self.assertEqual(tables.rest_row((1, 2), (), 3), (1, 2))
        self.assertEqual(tables.rest_row((), (), 3), ())

    def test_by_search(self):
        rng = random.Random(94)
        for _ in range(300):
            prime = rng.choice(PRIMES)
            width = rng.randint(1, 4 if prime < 5 else 3)
            one = drawn_table(rng, prime, rng.randint(0, 3), width, 0.4)
            other = drawn_table(rng, prime, rng.randint(0, 3), width, 0.4)
            here, there = row_sums(prime, one, width), row_sums(prime, other, width)
            told = tables.span(one, other, prime)
            self.assertEqual(row_sums(prime, told, width), row_sums(prime, one + other, width))
            self.assertEqual(fields.reduced(told, prime), told)
            told = tables.meet(one, other, prime)
            self.assertEqual(row_sums(prime, told, width), here & there)
            self.assertEqual(fields.reduced(told, prime), told)
            base = fields.reduced(one, prime)
            leading = [next(k for k, x in enumerate(row) if x) for row in base]
            self.assertEqual(tables.free_places(one, prime, width),
                             tuple(k for k in range(width) if k not in leading))
            row = drawn_table(rng, prime, 1, width)[0]
            rest = tables.rest_row(row, base, prime)
            self.assertFalse(any(rest[k] for k in leading))
            self.assertIn(tuple((x - y) % prime for x, y in zip(row, rest)), here)


class Polynomials(unittest.TestCase):
    def test_empty_ones(self):
        self.assertEqual(tables.own_poly((), 3), ())
        self.assertEqual(tables.least_poly((), 3), ())
        self.assertEqual(tables.poly_at((), 3, (1, 2)), ())
        self.assertEqual(tables.poly_table(3, ()), ())
        self.assertEqual(tables.divisors((), 3), ())

    def test_by_hand(self):
        self.assertEqual(tables.poly_table(5, (1, 2, 3)), ((0, 1, 0), (0, 0, 1), (4, 3, 2)))
        self.assertEqual(tables.poly_table(5, (1,)), ((4,),))
        self.assertEqual(tables.own_poly(((1, 2), (3, 4)), 5), (3, 0))
        self.assertEqual(tables.least_poly(((2, 0), (0, 2)), 5), (3,))
        self.assertEqual(tables.poly_at(((0, 1), (0, 0)), 5, (2, 3)), ((2, 3), (0, 2)))
        self.assertEqual(tables.divisors(((0, 0), (0, 0)), 5), (((0,), 1, 2),))
        self.assertEqual(tables.divisors(((0, 1), (0, 0)), 5), (((0,), 2, 1),))
        self.assertEqual(tables.divisors(((0, 1, 0), (0, 0, 0), (0, 0, 3)), 5), (((0,), 2, 1), ((2,), 1, 1)))

    def test_own_and_least(self):
        rng = random.Random(95)
        for _ in range(150):
            prime = rng.choice(PRIMES)
            size = rng.randint(1, 5)
            rows = drawn_table(rng, prime, size, size, rng.choice((0.0, 0.5, 0.8)))
            own = tables.own_poly(rows, prime)
            self.assertEqual(len(own), size)
            # Numbers put for x tell the polynomial as long as there are enough; the others tell it modulo.
            for x in range(prime):
                table = tuple(tuple((x * (i == j) - rows[i][j]) % prime for j in range(size)) for i in range(size))
                worth = sum(f * x ** k for k, f in enumerate(own + (1,))) % prime
                self.assertEqual(by_permutations(prime, table), worth)
            self.assertFalse(any(map(any, tables.poly_at(rows, prime, own))))
            self.assertEqual(-own[-1] % prime, sum(rows[k][k] for k in range(size)) % prime)
            least = tables.least_poly(rows, prime)
            self.assertFalse(any(map(any, tables.poly_at(rows, prime, least))))
            powers = [eye(size)]
            for _ in least:
                powers.append(mul(prime, powers[-1], rows, size))
            flat = [sum(table, ()) for table in powers]
            self.assertEqual(rank(prime, flat[:-1]), len(least))
            total = [sum(f * x for f, x in zip(least + (1,), column)) % prime for column in zip(*flat)]
            self.assertFalse(any(total))

    def test_twelve_rows(self):
        rng = random.Random(96)
        for prime in PRIMES:
            for _ in range(4):
                poly = tuple(rng.randrange(prime) for _ in range(12))
                table = tables.poly_table(prime, poly)
                turn = drawn_square(rng, prime, 12)
                table = mul(prime, mul(prime, turn, table, 12), tables.undo(turn, prime), 12)
                self.assertEqual(tables.own_poly(table, prime), poly)
                self.assertEqual(tables.least_poly(table, prime), poly)
                self.assertEqual(tables.divisors(table, prime), tuple((f, k, 1) for f, k in fields.factors(prime, poly)))

    def test_divisors(self):
        rng = random.Random(97)
        for _ in range(150):
            prime = rng.choice(PRIMES)
            counts, blocks, size = {}, [], 0
            for _ in range(rng.randint(1, 6)):
                factor = rng.choice([(0,)] + [f for d in (1, 2) for f in fields.irreducibles(prime, d)][:4])
                step = rng.randint(1, 3)
                if size + step * len(factor) <= 10:
                    size += step * len(factor)
                    blocks.append(tables.poly_table(prime, fields.poly_power(prime, factor, step)))
                    counts[(len(factor), factor, step)] = counts.get((len(factor), factor, step), 0) + 1
            turn = drawn_square(rng, prime, size)
            table = mul(prime, mul(prime, turn, direct(prime, blocks), size), tables.undo(turn, prime), size)
            told = tables.divisors(table, prime)
            self.assertEqual(told, tuple((f, k, counts[d, f, k]) for d, f, k in sorted(counts)))

    def test_poly_table(self):
        rng = random.Random(98)
        for _ in range(60):
            prime = rng.choice(PRIMES)
            poly = tuple(rng.randrange(prime) for _ in range(rng.randint(1, 12)))
            table = tables.poly_table(prime, poly)
            for k in range(len(poly) - 1):
                self.assertEqual(table[k], eye(len(poly))[k + 1])
            self.assertEqual(table[-1], tuple(-f % prime for f in poly))
            self.assertEqual(tables.own_poly(table, prime), poly)


class Interface(unittest.TestCase):
    def test_names_of_parameters(self):
        self.assertEqual(tables.undo(rows=((2,),), prime=3), ((2,),))
        self.assertEqual(tables.meet(rows=((1,),), others=((1,),), prime=naive.PRIMES[0]), ((1,),))


if __name__ == "__main__":
    unittest.main()
