"""[77], [78] Closed sets of strings, and the lots that make them."""

import unittest

from stringrooms import closed
from stringrooms.forms import beside
from stringrooms.lots import is_full, least_lot, most_lot
from stringrooms.making import made, over
from stringrooms.rounds import all_strings
from tests import naive, naive_lots
from tests.naive import CHAINED, DOUBLE, LINE, LOOP, POINT, raised

LISTS = (closed.free_of, closed.before, closed.closed_by, closed.is_closed, closed.lot_made)


class Sets(unittest.TestCase):
    def test_by_hand(self):
        every = all_strings(LINE)
        self.assertEqual(closed.free_of(LINE, ()), every)
        self.assertEqual(closed.before(LINE, ()), every)
        self.assertEqual(closed.free_of(LINE, every), ())
        self.assertEqual(closed.before(LINE, every), ())
        self.assertEqual(closed.free_of(LINE, ((0, ()),)), ((0, (0,)), (0, (0, 1)), (1, ()), (1, (1,)), (2, ())))
        self.assertEqual(closed.before(LINE, ((0, ()),)), ((1, ()), (1, (1,)), (2, ())))
        self.assertEqual(closed.closed_by(LINE, ((0, ()), (1, ()))), ((0, ()), (0, (0,)), (1, ())))
        self.assertEqual(closed.closed_by(LINE, ((0, (0,)),)), ((0, ()), (0, (0,))))
        self.assertIs(closed.is_closed(LINE, ((0, ()), (2, ()))), True)
        self.assertIs(closed.is_closed(LINE, ((0, ()), (1, ()))), False)
        self.assertIs(closed.is_closed(LINE, ()), True)
        self.assertEqual(closed.closed_by(LOOP, ((0, ()),)), ((0, ()), (0, (-1,))))
        self.assertEqual(closed.lot_made(LINE, ()), least_lot(LINE))
        self.assertEqual(closed.lot_made(LINE, every), most_lot(LINE))
        self.assertEqual(closed.lot_made(LINE, ((0, ()), (2, ()))), (((0, ()), (2, ())), (1,)))
        self.assertEqual(raised(closed.lot_made, LINE, ((0, ()), (1, ()))), ("NotPaper", "open"))
        self.assertEqual(closed.lot_made(POINT, ((0, ()),)), (((0, ()),), ()))

    def test_drawn(self):
        met = {True: 0, False: 0}
        for rng, plan in naive_lots.rng_plans(340, naive_lots.without_bands(340, 150, 5, 60)):
            every = all_strings(plan)
            for _ in range(3):
                some = naive_lots.drawn_strings(rng, every)
                free = naive_lots.free_of(plan, some)
                self.assertEqual(closed.free_of(plan, some), free)
                self.assertEqual(closed.before(plan, some), naive_lots.before(plan, some))
                told = naive_lots.grown_closed(plan, some)
                self.assertEqual(closed.closed_by(plan, some), told)
                self.assertEqual(told, naive_lots.before(plan, free))
                self.assertIs(closed.is_closed(plan, told), True)
                self.assertIs(closed.is_closed(plan, some), some == told)
                met[some == told] += 1
                if some == told:
                    self.assertEqual(made(plan, closed.lot_made(plan, some)), some)
                else:
                    self.assertEqual(raised(closed.lot_made, plan, some), ("NotPaper", "open"))
        self.assertGreater(min(met.values()), 30)

    def test_all_closed_sets_of_small_plans(self):
        tried = 0
        for plan in naive_lots.small_ones(341, 100, 3, 8):
            every, lots = all_strings(plan), {}
            for bits in range(2 ** len(every)):
                some = tuple(s for k, s in enumerate(every) if bits >> k & 1)
                if closed.is_closed(plan, some):
                    lots[closed.lot_made(plan, some)] = some
                tried += 1
            self.assertEqual(tuple(sorted(lots)), naive_lots.all_lots(plan))
            for lot, some in lots.items():
                self.assertEqual(made(plan, lot), some)
        self.assertGreater(tried, 1000)


class Lots(unittest.TestCase):
    def test_lot_made(self):
        for rng, plan in naive_lots.rng_plans(342, naive_lots.without_bands(342, 120)):
            lot = naive_lots.drawn_lot(rng, plan)
            told = made(plan, lot)
            self.assertIs(closed.is_closed(plan, told), True)
            self.assertEqual(closed.lot_made(plan, told), lot)

    def test_meet_and_join(self):
        met = 0
        for rng, plan in naive_lots.rng_plans(343, naive_lots.small_ones(343, 100)):
            every = naive_lots.all_lots(plan)
            for _ in range(3):
                lot, other = rng.choice(every), rng.choice(every)
                both, either = closed.meet(plan, lot, other), closed.join(plan, lot, other)
                self.assertEqual(set(made(plan, both)), set(made(plan, lot)) & set(made(plan, other)))
                above = [one for one in every if over(plan, one, lot) and over(plan, one, other)]
                self.assertIn(either, above)
                self.assertTrue(all(over(plan, one, either) for one in above))
                self.assertEqual(closed.meet(plan, other, lot), both)
                self.assertEqual(closed.join(plan, other, lot), either)
                self.assertIs(is_full(plan, both) and is_full(plan, either), True)
                met += either not in (lot, other) and both not in (lot, other)
        self.assertGreater(met, 20)

    def test_meet_and_join_by_hand(self):
        one, two = (((0, ()),), (1, 2)), (((1, ()),), (0, 2))
        self.assertEqual(closed.meet(LINE, one, two), least_lot(LINE))
        self.assertEqual(closed.join(LINE, one, two), (((0, (0,)), (1, ())), (2,)))
        self.assertEqual(closed.join(LINE, one, one), one)
        self.assertEqual(closed.meet(LINE, most_lot(LINE), two), two)


class Errors(unittest.TestCase):
    def test_endless(self):
        for plan in (DOUBLE, CHAINED, naive.FULL, beside(naive.GREAT, DOUBLE)):
            for call in LISTS:
                self.assertEqual(raised(call, plan, ()), ("Endless",))
                self.assertEqual(raised(call, plan, ((0, ()),)), ("Endless",))
            for call in (closed.meet, closed.join):
                self.assertEqual(raised(call, plan, least_lot(plan), most_lot(plan)), ("Endless",))

    def test_300_and_301_strings(self):
        for plan in (naive.ONE_MORE, naive.GREAT, naive.WIDE):
            for call in LISTS:
                # It comes ahead of an open set.
                for some in ((), ((0, ()),), tuple((p, ()) for p in range(plan[0]))):
                    self.assertEqual(raised(call, plan, some), ("TooGreat", 300))
            for call in (closed.meet, closed.join):
                self.assertEqual(raised(call, plan, least_lot(plan), most_lot(plan)), ("TooGreat", 300))
        plan = naive.THREE_HUNDRED
        every = all_strings(plan)
        self.assertEqual(len(every), 300)
        self.assertEqual(closed.free_of(plan, ()), every)
        self.assertEqual(closed.before(plan, every), ())
        self.assertEqual(closed.lot_made(plan, every), most_lot(plan))
        self.assertEqual(closed.lot_made(plan, closed.closed_by(plan, every[7:9]))[0] != (), True)
        self.assertEqual(closed.meet(plan, least_lot(plan), most_lot(plan)), least_lot(plan))
        self.assertEqual(closed.join(plan, least_lot(plan), most_lot(plan)), most_lot(plan))


if __name__ == "__main__":
    unittest.main()
