"""[74] All full lots, and the one lot at a row of integers."""

import itertools
import random
import unittest

from stringrooms import lotlists
from stringrooms.forms import beside
from stringrooms.lots import check_lot, is_full, sign_rows
from stringrooms.rounds import has_bands
from tests import naive, naive_lots
from tests.naive import CHAINED, DOUBLE, LINE, LOOP, POINT, TWELVE, raised

ARROW = (2, ((0, 1),), ())


class Lists(unittest.TestCase):
    def test_by_hand(self):
        self.assertEqual(lotlists.all_lots(POINT), (((), (0,)), (((0, ()),), ())))
        self.assertEqual(lotlists.all_lots(LOOP), (((), (0,)), (((0, (-1,)),), ())))
        self.assertEqual(lotlists.all_lots(ARROW), (
            ((), (0, 1)), (((0, ()),), (1,)), (((0, ()), (0, (0,))), ()), (((0, (0,)), (1, ())), ()), (((1, ()),), (0,))))
        self.assertEqual(len(lotlists.all_lots(LINE)), 14)
        self.assertEqual(lotlists.lots_with(ARROW, (((0, ()),), ())), lotlists.all_lots(ARROW)[1:3])
        self.assertEqual(lotlists.lots_with(ARROW, ((), (1,))), lotlists.all_lots(ARROW)[:2])
        self.assertEqual(lotlists.lots_with(ARROW, ((), ())), lotlists.all_lots(ARROW))

    def test_by_trying_all_sets(self):
        many = 0
        for rng, plan in naive_lots.rng_plans(320, naive_lots.small_ones(320, 150)):
            told = lotlists.all_lots(plan)
            self.assertEqual(told, naive_lots.all_lots(plan))
            many += len(told) > 10
            for lot in told:
                self.assertIs(check_lot(plan, lot), lot)
                self.assertIs(is_full(plan, lot), True)
            for _ in range(3):
                part = naive_lots.some_of(rng, rng.choice(told))
                fits = [lot for lot in told if set(part[0]) <= set(lot[0]) and set(part[1]) <= set(lot[1])]
                self.assertEqual(lotlists.lots_with(plan, part), tuple(fits))
        self.assertGreater(many, 40)

    def test_beside(self):
        for one, other in itertools.product((POINT, LOOP, ARROW, LINE), repeat=2):
            both = beside(one, other)
            self.assertEqual(len(lotlists.all_lots(both)), len(lotlists.all_lots(one)) * len(lotlists.all_lots(other)))

    def test_500_and_501(self):
        self.assertEqual(len(lotlists.all_lots((8, (), ()))), 256)
        self.assertEqual(raised(lotlists.all_lots, (9, (), ())), ("TooGreat", 500))
        line = beside(beside(ARROW, ARROW), beside(ARROW, (1, (), ())))
        self.assertEqual(len(lotlists.all_lots(line)), 250)
        two = beside(line, POINT)
        self.assertEqual(len(lotlists.all_lots(two)), 500)
        self.assertEqual(len(lotlists.lots_with(two, ((), (0,)))), 200)
        most = lotlists.lot_at(two, (3,) * 8)
        self.assertEqual(most[1], (3,) * 8)
        great = {}
        for plan in naive_lots.without_bands(321, 400, 6, 60):
            told = raised(lotlists.all_lots, plan)
            great.setdefault(told[0], plan)
        for plan in (great["TooGreat"], TWELVE, naive.GREAT, naive.WIDE):
            lot = ((), tuple(range(plan[0])))
            self.assertEqual(raised(lotlists.all_lots, plan), ("TooGreat", 500))
            self.assertEqual(raised(lotlists.lots_with, plan, lot), ("TooGreat", 500))
            self.assertEqual(raised(lotlists.lot_at, plan, (0,) * plan[0]), ("TooGreat", 500))

    def test_just_above_500(self):
        # 14 times 36 lots: those of the line of three points and of what is found with 36 or some such number.
        met = {}
        for plan in naive_lots.without_bands(322, 300, 5, 60):
            told = raised(lotlists.all_lots, plan)
            if told[0] == "nothing raised":
                met.setdefault(len(told[1]), plan)
        near = [(a * b, a, b) for a in met for b in met if 490 < a * b < 530 and met[a][0] + met[b][0] <= 12]
        self.assertTrue(min(near)[0] <= 500 < max(near)[0])
        for many, a, b in near:
            told = raised(lotlists.all_lots, beside(met[a], met[b]))
            self.assertEqual(told[0] == "TooGreat", many > 500)
            if many <= 500:
                self.assertEqual(len(told[1]), many)

    def test_endless(self):
        for plan in (DOUBLE, CHAINED, naive.FULL, beside((9, (), ()), DOUBLE)):
            self.assertIs(has_bands(plan), True)
            self.assertEqual(raised(lotlists.all_lots, plan), ("Endless",))
            self.assertEqual(raised(lotlists.lots_with, plan, ((), ())), ("Endless",))
            self.assertEqual(raised(lotlists.lot_at, plan, (1,) * plan[0]), ("Endless",))


class At(unittest.TestCase):
    def test_by_hand(self):
        self.assertEqual(lotlists.lot_at(ARROW, (0, 0)), (((), ()), ()))
        self.assertEqual(lotlists.lot_at(ARROW, (2, -1)), ((((0, ()), (0, (0,))), ()), (1, 1)))
        self.assertEqual(lotlists.lot_at(ARROW, (2, -2)), ((((0, ()),), ()), (2,)))
        self.assertEqual(lotlists.lot_at(ARROW, (2, -3)), ((((0, ()),), (1,)), (2, 1)))
        self.assertEqual(lotlists.lot_at(ARROW, (-2, 3)), ((((1, ()),), (0,)), (3, 2)))
        self.assertEqual(lotlists.lot_at((8, (), ()), (0,) * 8), (((), ()), ()))

    def test_the_one_pair(self):
        for rng, plan in naive_lots.rng_plans(323, naive_lots.small_ones(323, 100)):
            every = lotlists.all_lots(plan)
            for high in (1, 3, 10 ** 40):
                numbers = tuple(rng.randint(-high, high) for _ in range(plan[0]))
                lot, times = lotlists.lot_at(plan, numbers)
                self.assertIs(check_lot(plan, lot), lot)
                self.assertTrue(all(n > 0 for n in times) and len(times) == len(lot[0]) + len(lot[1]))
                rows = sign_rows(plan, lot)
                self.assertEqual(tuple(sum(n * row[p] for n, row in zip(times, rows)) for p in range(plan[0])), numbers)
                self.assertTrue(any(set(lot[0]) <= set(full[0]) and set(lot[1]) <= set(full[1]) for full in every))

    def test_each_part_with_any_times(self):
        for rng, plan in naive_lots.rng_plans(324, naive_lots.small_ones(324, 100)):
            part = naive_lots.some_of(rng, rng.choice(lotlists.all_lots(plan)))
            times = tuple(rng.randint(1, 5) for _ in part[0] + part[1])
            rows = sign_rows(plan, part)
            numbers = tuple(sum(n * row[p] for n, row in zip(times, rows)) for p in range(plan[0]))
            self.assertEqual(lotlists.lot_at(plan, numbers), (part, times))

    def test_row_of_noughts(self):
        for plan in naive_lots.small_ones(325, 60):
            self.assertEqual(lotlists.lot_at(plan, (0,) * plan[0]), (((), ()), ()))


class Drawn(unittest.TestCase):
    def test_drawn_exchanges_stay_among_them(self):
        rng = random.Random(326)
        for plan in naive_lots.small_ones(326, 80):
            self.assertIn(naive_lots.drawn_lot(rng, plan, 12), lotlists.all_lots(plan))


if __name__ == "__main__":
    unittest.main()
