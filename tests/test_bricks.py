"""[79], [80] Bricks, steps down and up, and sets of bricks that are apart."""

import itertools
import random
import unittest

from stringrooms import bricks
from stringrooms.closed import closed_by
from stringrooms.exchanges import exchange_step
from stringrooms.forms import beside
from stringrooms.lotlists import all_lots
from stringrooms.lots import is_full, least_lot, most_lot
from stringrooms.making import made
from stringrooms.peace import is_peaceful
from stringrooms.pieces import map_number
from stringrooms.rounds import all_strings
from stringrooms.walks import strings_upto
from tests import naive, naive_lots
from tests.naive import CHAINED, DOUBLE, LINE, LOOP, POINT, RING, TAILED, raised


class Bricks(unittest.TestCase):
    def test_by_hand(self):
        self.assertEqual(bricks.bricks(POINT), ((0, ()),))
        self.assertEqual(bricks.bricks(LOOP), ((0, ()),))
        self.assertEqual(bricks.bricks(LINE), all_strings(LINE))
        self.assertEqual(bricks.bricks_upto(LOOP, 60), ((0, ()),))
        self.assertEqual(bricks.bricks_upto(DOUBLE, 2), ((0, ()), (0, (0,)), (0, (0, -2)), (0, (1,)), (1, ()), (1, (-2, 0))))
        self.assertEqual(bricks.bricks_upto(DOUBLE, 0), ((0, ()), (1, ())))

    def test_drawn(self):
        for plan in naive_lots.without_bands(350, 120, 5, 120):
            told = bricks.bricks(plan)
            self.assertEqual(told, tuple(s for s in all_strings(plan) if map_number(plan, s, s) == 1))
            self.assertEqual(len(told), sum(is_peaceful(plan, s) for s in all_strings(plan)))
        for plan in naive.plans_for(351, 80, 5):
            for length in (0, 1, 4):
                told = tuple(s for s in strings_upto(plan, length) if map_number(plan, s, s) == 1)
                self.assertEqual(bricks.bricks_upto(plan, length), told)

    def test_errors(self):
        for plan in (DOUBLE, CHAINED, beside(naive.GREAT, DOUBLE)):
            self.assertEqual(raised(bricks.bricks, plan), ("Endless",))
            self.assertEqual(raised(bricks.brick_sets, plan), ("Endless",))
        for call in (bricks.bricks, bricks.brick_sets):
            self.assertEqual(raised(call, naive.GREAT), ("TooGreat", 2000))
            self.assertEqual(raised(call, beside(naive.NEARLY_2000, naive.FIFTY)), ("TooGreat", 2000))
        self.assertEqual(raised(bricks.brick_sets, naive.WIDE), ("TooGreat", 500))
        self.assertGreater(len(bricks.bricks(naive.WIDE)), 12)
        self.assertEqual(raised(bricks.bricks_upto, naive.GREAT, 60), ("TooGreat", 2000))
        self.assertEqual(raised(bricks.bricks_upto, naive.FULL, 60), ("TooGreat", 2000))
        self.assertEqual(bricks.bricks_upto(naive.FULL, 0), tuple((p, ()) for p in range(12)))


class Steps(unittest.TestCase):
    def test_by_hand(self):
        self.assertEqual(bricks.steps_down(POINT, (((0, ()),), ())), ((0, (0, ())),))
        self.assertEqual(bricks.steps_up(POINT, (((0, ()),), ())), ())
        self.assertEqual(bricks.steps_down(POINT, ((), (0,))), ())
        self.assertEqual(bricks.steps_up(POINT, ((), (0,))), ((0, (0, ())),))
        self.assertEqual(bricks.steps_down(LINE, most_lot(LINE)), ((0, (0, ())), (1, (1, ())), (2, (2, ()))))
        self.assertEqual(bricks.steps_up(LINE, most_lot(LINE)), ())

    def test_drawn(self):
        rng = random.Random(352)
        for plan in naive.plans_for(352, 80, 5) + [DOUBLE, TAILED, CHAINED, RING] * 3:
            lot = naive_lots.drawn_lot(rng, plan)
            told = {-1: [], 1: []}
            for number in range(plan[0]):
                _, _, piece, way, _ = exchange_step(plan, lot, number)
                told[way].append((number, piece))
            self.assertEqual(bricks.steps_down(plan, lot), tuple(told[-1]))
            self.assertEqual(bricks.steps_up(plan, lot), tuple(told[1]))
            self.assertEqual(len(bricks.steps_down(plan, most_lot(plan))), plan[0])
            self.assertEqual(len(bricks.steps_up(plan, least_lot(plan))), plan[0])
            down = tuple(sorted(piece for _, piece in told[-1]))
            self.assertIs(bricks.are_apart(plan, down), True)

    def test_400_letters(self):
        lot = most_lot(DOUBLE)
        while True:
            number = [len(s[1]) for s in lot[0]].index(min(len(s[1]) for s in lot[0]))
            told = raised(exchange_step, DOUBLE, lot, number)
            if told[0] == "TooGreat":
                break
            self.assertEqual(len(bricks.steps_down(DOUBLE, lot) + bricks.steps_up(DOUBLE, lot)), 2)
            lot = told[1][0]
        # It is raised for any member, also where the other one's step alone is asked for.
        self.assertEqual(raised(bricks.steps_down, DOUBLE, lot), ("TooGreat", 400))
        self.assertEqual(raised(bricks.steps_up, DOUBLE, lot), ("TooGreat", 400))

    def test_few(self):
        self.assertEqual(raised(bricks.steps_down, LINE, ((), (0,))), ("NotLot", "few"))
        self.assertEqual(raised(bricks.steps_up, DOUBLE, ((), ())), ("NotLot", "few"))


class Apart(unittest.TestCase):
    def test_by_hand(self):
        self.assertIs(bricks.are_apart(LINE, ()), True)
        self.assertIs(bricks.are_apart(LINE, ((0, ()), (1, ()), (2, ()))), True)
        self.assertIs(bricks.are_apart(LINE, ((0, ()), (0, (0,)))), False)
        self.assertIs(bricks.are_apart(LINE, ((0, (0,)), (1, ()))), False)
        self.assertIs(bricks.are_apart(LINE, ((0, (0,)), (2, ()))), True)
        self.assertIs(bricks.are_apart(LOOP, ((0, (-1,)),)), False)
        self.assertEqual(bricks.lot_of_bricks(LINE, ()), least_lot(LINE))
        self.assertEqual(bricks.lot_of_bricks(LINE, ((0, ()), (1, ()), (2, ()))), most_lot(LINE))
        self.assertEqual(raised(bricks.lot_of_bricks, LINE, ((0, ()), (0, (0,)))), ("NotPaper", "maps"))
        self.assertEqual(bricks.brick_sets(POINT), ((), ((0, ()),)))
        self.assertEqual(bricks.brick_sets(LOOP), ((), ((0, ()),)))
        self.assertEqual(bricks.brick_sets((2, ((0, 1),), ())), (
            (), ((0, ()),), ((0, ()), (1, ())), ((0, (0,)),), ((1, ()),)))

    def test_drawn(self):
        met = {True: 0, False: 0}
        for rng, plan in naive_lots.rng_plans(353, naive_lots.without_bands(353, 150, 5, 60)):
            for _ in range(5):
                some = naive_lots.drawn_strings(rng, all_strings(plan), 3)
                told = all(map_number(plan, a, b) == (a == b) for a in some for b in some)
                self.assertIs(bricks.are_apart(plan, some), told)
                met[told] += 1
                if told:
                    lot = bricks.lot_of_bricks(plan, some)
                    self.assertIs(is_full(plan, lot), True)
                    self.assertEqual(made(plan, lot), closed_by(plan, some))
                    self.assertEqual(tuple(sorted(piece for _, piece in bricks.steps_down(plan, lot))), some)
                else:
                    self.assertEqual(raised(bricks.lot_of_bricks, plan, some), ("NotPaper", "maps"))
        self.assertGreater(min(met.values()), 100)

    def test_sets_by_trying_all(self):
        for plan in naive_lots.small_ones(354, 120, 4, 12):
            every = bricks.bricks(plan)
            told = []
            for many in range(plan[0] + 1):
                told += [some for some in itertools.combinations(every, many)
                         if all(map_number(plan, a, b) == (a == b) for a in some for b in some)]
            self.assertEqual(bricks.brick_sets(plan), tuple(sorted(told)))

    def test_as_many_as_lots(self):
        for plan in naive_lots.small_ones(355, 100):
            lots = all_lots(plan)
            sets = bricks.brick_sets(plan)
            self.assertEqual(tuple(sorted(bricks.lot_of_bricks(plan, some) for some in sets)), lots)
            self.assertEqual(sum(len(bricks.steps_down(plan, lot)) == 1 for lot in lots), len(bricks.bricks(plan)))
            for lot in lots:
                down = tuple(sorted(piece for _, piece in bricks.steps_down(plan, lot)))
                self.assertEqual(bricks.lot_of_bricks(plan, down), lot)

    def test_errors_of_lot_of_bricks(self):
        self.assertEqual(raised(bricks.lot_of_bricks, DOUBLE, ((0, ()), (0, (0,)))), ("Endless",))
        self.assertEqual(raised(bricks.lot_of_bricks, DOUBLE, ()), ("Endless",))
        for plan in (naive.ONE_MORE, naive.GREAT):
            string = next(s for s in strings_upto(plan, 1) if map_number(plan, s, s) > 1)
            self.assertEqual(raised(bricks.lot_of_bricks, plan, (string,)), ("NotPaper", "maps"))
            self.assertEqual(raised(bricks.lot_of_bricks, plan, ()), ("TooGreat", 300))
            self.assertEqual(raised(bricks.lot_of_bricks, plan, ((0, ()), (1, ()))), ("TooGreat", 300))
        plan = naive.THREE_HUNDRED
        simple = tuple((p, ()) for p in range(plan[0]))
        self.assertEqual(bricks.lot_of_bricks(plan, simple), most_lot(plan))

    def test_500_sets_and_501(self):
        arrow = (2, ((0, 1),), ())
        half = beside(beside(arrow, arrow), beside(arrow, POINT))
        self.assertEqual(len(bricks.brick_sets(beside(half, POINT))), 500)
        self.assertEqual(raised(bricks.brick_sets, beside(half, arrow)), ("TooGreat", 500))
        self.assertEqual(len(bricks.brick_sets((8, (), ()))), 256)
        self.assertEqual(raised(bricks.brick_sets, (9, (), ())), ("TooGreat", 500))
        self.assertEqual(raised(bricks.brick_sets, naive.TWELVE), ("TooGreat", 500))


if __name__ == "__main__":
    unittest.main()
