"""[69], [70], [73] Lots, full lots and their signs, lots made full."""

import random
import unittest

from stringrooms import lots
from stringrooms.forms import beside
from stringrooms.making import made, over
from stringrooms.peace import are_peaceful, is_peaceful, sign_of
from stringrooms.rests import cover_of
from stringrooms.rounds import all_strings
from stringrooms.tables import determinant
from stringrooms.walks import strings_upto
from tests import naive, naive_lots
from tests.naive import CHAINED, DOUBLE, LINE, LOOP, POINT, TAILED, TWELVE, raised


class Checks(unittest.TestCase):
    def test_good_ones(self):
        for plan, value in ((POINT, ((), ())), (POINT, ((), (0,))), (POINT, (((0, ()),), ())),
                            (LINE, (((0, (0, 1)), (1, (1,)), (2, ())), ())), (TWELVE, ((), tuple(range(12)))),
                            (DOUBLE, (((0, (0, -2)),), ())), (LINE, (((0, ()),), (1, 2)))):
            self.assertIs(lots.check_lot(plan, value), value)

    def test_form(self):
        for value in naive.ODD_VALUES + (((), (), ()), ([], ()), ((), []), ((), (1, 0)), ((), (0, 0)), ((), (3,)),
                                         ((), (-1,)), ((), (True,)), ((), (0, None)), ((), ("0",)), ((), (0.0,)),
                                         (((0, ()),), [1]), ((None,), (5,)), (((0, ()), (0, ())), (2, 1))):
            if value != ((), ()):
                self.assertEqual(raised(lots.check_lot, LINE, value), ("NotLot", "form"), value)

    def test_walk(self):
        for entry in naive.ODD_VALUES + ((3, ()), (0, [0]), [0, ()], (0, (1,)), (0, (0, 0)), (1, (-1,)), (2, (-2, -1)),
                                         (True, ()), (0, (True,))):
            self.assertEqual(raised(lots.check_lot, LINE, ((entry,), ())), ("NotLot", "walk"), entry)
            self.assertEqual(raised(lots.check_lot, LINE, (((0, ()), (0, ()), entry), (0,))), ("NotLot", "walk"), entry)

    def test_60_and_61_letters(self):
        fits = naive.string(DOUBLE, (0, (0, -2) * 30))
        long = naive.string(DOUBLE, (1, (-1, 1) * 30 + (-1,)))
        self.assertIs(is_peaceful(DOUBLE, fits), True)
        self.assertEqual(lots.check_lot(DOUBLE, ((fits,), ())), ((fits,), ()))
        self.assertEqual(raised(lots.check_lot, DOUBLE, ((long,), ())), ("NotLot", "walk"))

    def test_twice(self):
        one, two = (0, ()), (2, ())
        for strings in ((one, one), (two, one), (one, two, two), (two, two, two), (one, (0, (0,)), one)):
            self.assertEqual(raised(lots.check_lot, LINE, (strings, (0,))), ("NotLot", "twice"))

    def test_unlike_and_less(self):
        self.assertEqual(raised(lots.check_lot, LOOP, (((0, ()),), (0,))), ("NotLot", "unlike"))
        self.assertEqual(raised(lots.check_lot, LINE, (((0, ()), (1, ())), (0,))), ("NotLot", "unlike"))
        self.assertEqual(raised(lots.check_lot, LINE, (((0, ()), (2, ())), (0,))), ("NotLot", "less"))
        self.assertEqual(raised(lots.check_lot, LINE, (((0, (0, 1)),), (1,))), ("NotLot", "less"))
        self.assertEqual(lots.check_lot(LINE, (((0, ()), (2, ())), (1,))), (((0, ()), (2, ())), (1,)))

    def test_first_word_that_fits(self):
        rng = random.Random(300)
        met = {}
        for plan in naive.plans_for(300, 100, 5) + [DOUBLE, TAILED, CHAINED] * 3:
            strings = strings_upto(plan, 3)[:60]
            for _ in range(8):
                some = [rng.choice(strings) for _ in range(rng.randint(0, 2))]
                full = naive_lots.some_of(rng, naive_lots.drawn_lot(rng, plan))
                some = some + list(full[0]) if rng.random() < 0.6 else some
                some = sorted(set(some)) if rng.random() < 0.8 else some
                points = tuple(sorted(rng.sample(range(plan[0]), rng.randint(0, min(2, plan[0])))))
                points = full[1] if rng.random() < 0.5 else points[::-1] if rng.random() < 0.3 else points
                if rng.random() < 0.1 and some:
                    some[0] = naive.about(plan, some[0])
                value = (tuple(some), points)
                word = None
                if list(points) != sorted(points):
                    word = "form"
                elif any(s != naive.string(plan, s) for s in some):
                    word = "walk"
                elif any(some[k] >= some[k + 1] for k in range(len(some) - 1)):
                    word = "twice"
                elif not all(is_peaceful(plan, a) and are_peaceful(plan, a, b) for a in some for b in some):
                    word = "unlike"
                elif any(p in points for s in some for p in naive.points(plan, s)):
                    word = "less"
                told = ("NotLot", word) if word else ("nothing raised", value)
                self.assertEqual(raised(lots.check_lot, plan, value), told)
                met[word] = met.get(word, 0) + 1
        self.assertEqual(len(met), 6, met)


class FullLots(unittest.TestCase):
    def test_by_hand(self):
        self.assertEqual(lots.most_lot(LINE), (((0, (0, 1)), (1, (1,)), (2, ())), ()))
        self.assertEqual(lots.least_lot(LINE), ((), (0, 1, 2)))
        self.assertEqual(lots.most_lot(DOUBLE), (((1, ()), (1, (-2, 0))), ()))
        self.assertIs(lots.is_full(LINE, ((), (0, 1))), False)
        self.assertIs(lots.is_full(LINE, (((0, ()),), (1, 2))), True)
        self.assertEqual(lots.sign_rows(LINE, (((0, ()),), (1, 2))), ((1, -1, 0), (0, -1, 0), (0, 0, -1)))
        self.assertEqual(lots.sign_rows(LINE, ((), ())), ())
        self.assertEqual(lots.written(LINE, (((0, ()),), (1, 2)), (5, 0, -3)), (5, -5, 3))

    def test_full_is_that_none_can_be_put_in(self):
        met = {True: 0, False: 0}
        for rng, plan in naive_lots.rng_plans(301, naive_lots.small_ones(301, 150)):
            every = naive_lots.members(plan)
            for _ in range(6):
                lot = naive_lots.drawn_lot(rng, plan)
                lot = naive_lots.some_of(rng, lot) if rng.random() < 0.6 else lot
                some = [("string", s) for s in lot[0]] + [("less", p) for p in lot[1]]
                more = [m for m in every if m not in some and all(naive_lots.fits(plan, m, x) for x in some)]
                self.assertIs(lots.is_full(plan, lot), not more)
                met[not more] += 1
        self.assertTrue(min(met.values()) > 30, met)

    def test_most_and_least(self):
        for plan in naive.plans_for(302, 100) + [naive.FULL]:
            most, least = lots.most_lot(plan), lots.least_lot(plan)
            self.assertEqual(most, (tuple(sorted(cover_of(plan, p) for p in range(plan[0]))), ()))
            self.assertEqual(least, ((), tuple(range(plan[0]))))
            for lot in (most, least):
                self.assertIs(lots.check_lot(plan, lot), lot)
                self.assertIs(lots.is_full(plan, lot), True)

    def test_signs_and_written(self):
        rng = random.Random(303)
        for plan in naive.plans_for(303, 120) + [DOUBLE, TAILED, CHAINED, naive.FULL] * 3:
            lot = naive_lots.drawn_lot(rng, plan)
            rows = lots.sign_rows(plan, lot)
            marks = [tuple(-int(p == q) for q in range(plan[0])) for p in lot[1]]
            self.assertEqual(rows, tuple([sign_of(plan, s) for s in lot[0]] + marks))
            for prime in naive.PRIMES:
                told = determinant(tuple(tuple(x % prime for x in row) for row in rows), prime)
                self.assertIn(told, (1, prime - 1))
            for column in zip(*rows):
                self.assertFalse(any(x > 0 for x in column) and any(x < 0 for x in column))
            for high in (0, 3, 10 ** 40):
                numbers = tuple(rng.randint(-high, high) for _ in range(plan[0]))
                times = lots.written(plan, lot, numbers)
                self.assertEqual(tuple(sum(n * row[p] for n, row in zip(times, rows)) for p in range(plan[0])), numbers)
            for k, row in enumerate(rows):
                self.assertEqual(lots.written(plan, lot, row), tuple(int(k == j) for j in range(plan[0])))
            self.assertEqual(lots.written(plan, lot, (0,) * plan[0]), (0,) * plan[0])
            few = naive_lots.some_of(rng, lot)
            if few != lot:
                self.assertEqual(raised(lots.written, plan, few, (0,) * plan[0]), ("NotLot", "few"))
                self.assertEqual(len(lots.sign_rows(plan, few)), len(few[0]) + len(few[1]))

    def test_few(self):
        self.assertEqual(raised(lots.written, LINE, ((), ()), (0, 0, 0)), ("NotLot", "few"))
        self.assertEqual(raised(lots.written, TWELVE, ((), tuple(range(11))), (1,) * 12), ("NotLot", "few"))
        self.assertEqual(lots.written(TWELVE, ((), tuple(range(12))), tuple(range(12))), tuple(-p for p in range(12)))


class Completed(unittest.TestCase):
    def test_by_hand(self):
        self.assertEqual(lots.completed(LINE, ((), ())), lots.most_lot(LINE))
        self.assertEqual(lots.completed_least(LINE, ((), ())), lots.least_lot(LINE))
        self.assertEqual(lots.completed(LINE, (((1, ()),), ())), (((0, (0, 1)), (1, ()), (1, (1,))), ()))
        self.assertEqual(lots.completed_least(LINE, (((1, ()),), ())), (((1, ()),), (0, 2)))
        self.assertEqual(lots.completed(LINE, ((), (1,))), (((0, ()), (2, ())), (1,)))

    def test_among_all_full_lots(self):
        met = 0
        for rng, plan in naive_lots.rng_plans(304, naive_lots.small_ones(304, 100)):
            every = naive_lots.all_lots(plan)
            makes = {lot: set(made(plan, lot)) for lot in every}
            for _ in range(4):
                part = naive_lots.some_of(rng, rng.choice(every))
                fits = [lot for lot in every if set(part[0]) <= set(lot[0]) and set(part[1]) <= set(lot[1])]
                most, least = lots.completed(plan, part), lots.completed_least(plan, part)
                self.assertIn(most, fits)
                self.assertIn(least, fits)
                for lot in fits:
                    self.assertTrue(makes[least] <= makes[lot] <= makes[most])
                    self.assertIs(over(plan, most, lot), True)
                met += len(fits) > 1
        self.assertGreater(met, 50)

    def test_a_full_one_is_completed(self):
        for rng, plan in naive_lots.rng_plans(305, naive_lots.without_bands(305, 100)):
            lot = naive_lots.drawn_lot(rng, plan)
            self.assertEqual(lots.completed(plan, lot), lot)
            self.assertEqual(lots.completed_least(plan, lot), lot)

    def test_errors(self):
        for call in (lots.completed, lots.completed_least):
            for plan in (DOUBLE, CHAINED, beside(naive.GREAT, DOUBLE)):
                self.assertEqual(raised(call, plan, ((), ())), ("Endless",))
            self.assertEqual(raised(call, naive.GREAT, ((), ())), ("TooGreat", 300))
            self.assertEqual(len(all_strings(naive.ONE_MORE)), 301)
            self.assertEqual(raised(call, naive.ONE_MORE, ((), ())), ("TooGreat", 300))
        self.assertEqual(len(all_strings(naive.THREE_HUNDRED)), 300)
        self.assertEqual(lots.completed(naive.THREE_HUNDRED, ((), ())), lots.most_lot(naive.THREE_HUNDRED))
        self.assertEqual(lots.completed_least(naive.THREE_HUNDRED, ((), ())), lots.least_lot(naive.THREE_HUNDRED))


if __name__ == "__main__":
    unittest.main()
