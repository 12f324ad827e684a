"""[2], [10], [11], [12] Plans, their letters, and plans turned and renamed."""

import random
import unittest

from stringrooms import plans
from stringrooms.errors import NotPlan
from tests import naive
from tests.naive import BY_HAND, FULL, ODD_VALUES, drawn_plans, raised


class Check(unittest.TestCase):
    def broken(self, value, rule, place):
        self.assertEqual(raised(plans.check_plan, value), ("NotPlan", rule, place), value)
        self.assertIs(plans.is_plan(value), False)

    def test_plans_are_returned(self):
        for plan in BY_HAND + (FULL,):
            self.assertIs(plans.check_plan(plan), plan)
            self.assertIs(plans.is_plan(plan), True)
        self.assertEqual(len(FULL[1]), 23)

    def test_form(self):
        for value in ODD_VALUES:
            self.broken(value, "form", -1)
        arrow = ((0, 0),)
        for value in ([1, (), ()], (1, ()), (1, (), (), ()), (0, (), ()), (13, (), ()), (-1, (), ()), (True, (), ()),
                      ("1", (), ()), (None, (), ()), (1.0, (), ()), (1, [], ()), (1, (), []), (1, None, ()),
                      (1, (), {}), (12, tuple([(0, 0)] * 25), ()), (1, "", ()), (13, ((5, 5, 5),), ()),
                      (1, arrow, None), ((1,), (), ())):
            self.broken(value, "form", -1)

    def test_arrow(self):
        for bad in (None, True, 0, (0,), (0, 1, 0), [0, 1], (0, 2), (2, 0), (-1, 0), (0, True), (False, 0), ("0", 0),
                    (0, None), (0, 1.0), "01"):
            self.broken((2, (bad,), ()), "arrow", 0)
            self.broken((2, ((0, 1), bad, bad), (9,)), "arrow", 1)
        self.broken((1, tuple([(0, 0)] * 24), ((1, 1), None)), "nought", 1)
        self.broken((12, tuple([(0, 0)] * 23 + [(0, 12)]), ()), "arrow", 23)

    def test_nought(self):
        arrows = ((0, 1), (1, 2), (0, 1), (1, 2))
        for bad in (None, True, (0,), (0, 1, 1), [0, 1], (0, 4), (4, 1), (-1, 1), (0, True), (False, 1), ("0", 1),
                    (1, 0), (0, 0), (0, 2)):
            self.broken((3, arrows, (bad,)), "nought", 0)
            self.broken((3, arrows, ((0, 1), bad)), "nought", 1)
        self.broken((3, arrows, ((0, 1), (0, 1))), "nought", 1)
        self.broken((3, arrows, ((2, 3), (0, 1))), "nought", 1)
        self.broken((3, arrows, ((0, 1), (2, 3), (2, 1))), "nought", 2)

    def test_two(self):
        self.broken((2, ((0, 1), (0, 1), (0, 1)), ()), "two", 0)
        self.broken((2, ((1, 0), (1, 0), (1, 0)), ()), "two", 0)
        self.broken((4, ((1, 0), (3, 1), (2, 1), (0, 1)), ()), "two", 1)
        self.broken((4, ((0, 1), (0, 2), (3, 2), (3, 2)), ()), "two", 2)
        self.broken((4, ((0, 1), (2, 3), (2, 1), (2, 0)), ()), "two", 2)
        self.broken((1, ((0, 0), (0, 0), (0, 0)), ()), "two", 0)

    def test_one(self):
        fork = ((0, 1), (1, 2), (1, 2))
        self.broken((3, fork, ()), "one", 0)
        self.broken((3, fork, ((0, 1), (0, 2))), "one", 0)
        self.assertTrue(plans.is_plan((3, fork, ((0, 2),))))
        join = ((1, 2), (0, 1), (0, 1))
        self.broken((3, join, ()), "one", 0)
        self.broken((3, join, ((1, 0), (2, 0))), "one", 0)
        self.assertTrue(plans.is_plan((3, join, ((2, 0),))))
        cross = ((3, 4), (0, 1), (0, 1), (1, 2), (1, 2))
        self.broken((5, cross, ((1, 3), (2, 3))), "one", 3)
        self.broken((5, cross, ((1, 3), (1, 4))), "one", 1)
        self.broken((5, cross, ((2, 3),)), "one", 1)
        self.assertTrue(plans.is_plan((5, cross, ((1, 3), (2, 4)))))

    def test_ends(self):
        self.broken((1, ((0, 0),), ()), "ends", 0)
        self.assertTrue(plans.is_plan((3, ((0, 1), (1, 2), (2, 1)), ((0, 1), (1, 2)))))
        self.broken((3, ((0, 1), (1, 2), (2, 1)), ((0, 1),)), "ends", 1)
        self.broken((4, ((0, 1), (2, 3), (3, 2)), ()), "ends", 1)
        self.broken((2, ((0, 1), (1, 0)), ()), "ends", 0)
        self.assertTrue(plans.is_plan((2, ((0, 1), (1, 0)), ((1, 0),))))
        self.broken((1, ((0, 0), (0, 0)), ((0, 0), (1, 1))), "ends", 0)
        self.broken((1, ((0, 0), (0, 0)), ((0, 1), (1, 0))), "ends", 0)
        # Two arrows begin and end at each point: then some way never ends.
        arrows = tuple((p, (p + 1) % 12) for p in range(12)) + tuple((p, (p + 5) % 12) for p in range(12))
        noughts = [((p - 1) % 12, p) for p in range(12)] + [(12 + (p - 5) % 12, 12 + p) for p in range(12)]
        self.broken((12, arrows, tuple(sorted(noughts))), "ends", 0)

    def test_first_of_several(self):
        self.broken((3, ((0, 1), (0, 1), (0, 1), (2, 2)), ((3, 0),)), "nought", 0)
        self.broken((3, ((0, 1), (0, 1), (0, 1), (2, 2)), ()), "two", 0)
        self.broken((3, ((2, 2), (0, 1), (1, 0), (1, 0)), ()), "one", 1)
        self.broken((3, ((0, 1), (3, 1)), ((1, 0),)), "arrow", 1)

    def test_against_the_definition(self):
        rng = random.Random(10)
        told = {True: 0, False: 0}
        for _ in range(1500):
            size = rng.randint(1, 4)
            arrows = tuple((rng.randrange(size), rng.randrange(size)) for _ in range(rng.randint(0, 5)))
            pairs = [(a, b) for a, x in enumerate(arrows) for b, y in enumerate(arrows) if x[1] == y[0]]
            plan = (size, arrows, tuple(pair for pair in pairs if rng.random() < 0.5))
            self.assertIs(plans.is_plan(plan), naive.is_gentle(plan), plan)
            told[naive.is_gentle(plan)] += 1
        self.assertGreater(min(told.values()), 50)


class Letters(unittest.TestCase):
    PLAN = naive.CHAINED

    def test_by_hand(self):
        plan = self.PLAN
        self.assertEqual(plans.ends_of(plan, 2), (1, 2))
        self.assertEqual(plans.ends_of(plan, -3), (2, 1))
        self.assertEqual([plans.next_of(plan, a) for a in range(5)], [2, None, 3, None, None])
        self.assertEqual([plans.nil_of(plan, a) for a in range(5)], [None, 2, 4, None, None])
        self.assertEqual([plans.ahead_of(plan, a) for a in range(5)], [None, None, 0, 2, None])
        self.assertEqual([plans.nil_ahead_of(plan, a) for a in range(5)], [None, None, 1, None, 2])
        self.assertEqual([plans.mate_of(plan, x) for x in range(5)], [1, 0, None, 4, 3])
        self.assertEqual([plans.mate_of(plan, x) for x in range(-5, 0)], [-4, -5, None, -1, -2])
        self.assertEqual(plans.followers(plan, 0), (-2, 2))
        self.assertEqual(plans.followers(plan, 1), (-1,))
        self.assertEqual(plans.from_point(plan, 1), (-2, -1, 2))
        self.assertEqual(plans.followers(naive.LOOP, 0), ())
        self.assertEqual(plans.from_point(naive.LOOP, 0), (-1, 0))
        self.assertIsNone(plans.mate_of(naive.LOOP, 0))
        self.assertEqual(plans.nil_of(naive.LOOP, 0), 0)
        self.assertIsNone(plans.next_of(naive.LOOP, 0))
        self.assertEqual(plans.from_point(naive.POINT, 0), ())

    def test_against_the_definition(self):
        for plan in naive.plans_for(11, 60) + [FULL]:
            many = len(plan[1])
            for a in range(many):
                behind = [b for b in range(many) if plan[1][a][1] == plan[1][b][0]]
                ahead = [b for b in range(many) if plan[1][b][1] == plan[1][a][0]]
                told = (plans.next_of(plan, a), plans.nil_of(plan, a), plans.ahead_of(plan, a),
                        plans.nil_ahead_of(plan, a))
                found = ([b for b in behind if (a, b) not in plan[2]], [b for b in behind if (a, b) in plan[2]],
                         [b for b in ahead if (b, a) not in plan[2]], [b for b in ahead if (b, a) in plan[2]])
                self.assertEqual(told, tuple(lot[0] if lot else None for lot in found))
            for x in naive.letters_of(plan):
                self.assertEqual(plans.ends_of(plan, x), naive.ends(plan, x))
                mates = [y for y in naive.letters_of(plan) if y != x and (y >= 0) == (x >= 0)
                         and naive.ends(plan, y)[0] == naive.ends(plan, x)[0]]
                self.assertEqual(plans.mate_of(plan, x), mates[0] if mates else None)
                for y in naive.letters_of(plan):
                    self.assertIs(plans.may_follow(plan, x, y), naive.follows(plan, x, y))
                self.assertEqual(plans.followers(plan, x),
                                 tuple(y for y in naive.letters_of(plan) if naive.follows(plan, x, y)))
            for p in range(plan[0]):
                self.assertEqual(plans.from_point(plan, p),
                                 tuple(x for x in naive.letters_of(plan) if naive.ends(plan, x)[0] == p))


class Renamed(unittest.TestCase):
    def test_turned_plan(self):
        self.assertEqual(plans.turned_plan(naive.TAILED),
                         (4, ((1, 0), (2, 1), (2, 1), (3, 2)), ((1, 0), (3, 2))))
        for plan in naive.plans_for(12, 60):
            turned = plans.turned_plan(plan)
            self.assertIs(plans.check_plan(turned), turned)
            self.assertEqual(plans.turned_plan(turned), plan)
            self.assertEqual(set(turned[2]), {(b, a) for a, b in plan[2]})

    def test_renamed(self):
        self.assertEqual(plans.renamed(naive.TAILED, (3, 2, 1, 0), (1, 0, 3, 2)),
                         (4, ((2, 1), (3, 2), (1, 0), (2, 1)), ((1, 0), (3, 2))))
        rng = random.Random(13)
        for plan in naive.plans_for(13, 60):
            points, arrows = list(range(plan[0])), list(range(len(plan[1])))
            rng.shuffle(points)
            rng.shuffle(arrows)
            told = plans.renamed(plan, tuple(points), tuple(arrows))
            plans.check_plan(told)
            for a, (start, end) in enumerate(plan[1]):
                self.assertEqual(told[1][arrows[a]], (points[start], points[end]))
            self.assertEqual(set(told[2]), {(arrows[a], arrows[b]) for a, b in plan[2]})
            back_points = tuple(points.index(p) for p in range(plan[0]))
            back_arrows = tuple(arrows.index(a) for a in range(len(plan[1])))
            self.assertEqual(plans.renamed(told, back_points, back_arrows), plan)

    def test_wrong_renamings(self):
        plan = naive.FORK
        for bad in (None, True, [0, 1, 2], (0, 1), (0, 1, 2, 3), (0, 1, 1), (0, 1, 3), (0, 1, -1), (0, True, 2),
                    (0, 1, "2"), (0, 1, None), ((0,), 1, 2), (0, 1.0, 2), "012", {}):
            self.assertEqual(raised(plans.renamed, plan, bad, (0, 1)), ("NotMap", 0))
            self.assertEqual(raised(plans.renamed, plan, bad, None), ("NotMap", 0))
        for bad in (None, False, [0, 1], (0,), (0, 1, 2), (0, 0), (1, 2), (False, True), (0, "1"), ()):
            self.assertEqual(raised(plans.renamed, plan, (0, 1, 2), bad), ("NotMap", 1))
        self.assertEqual(plans.renamed(plan, points=(0, 1, 2), arrows=(0, 1)), plan)


class Drawn(unittest.TestCase):
    def test_drawn_plans_are_plans(self):
        for plan in drawn_plans(14, 200, 8):
            self.assertIs(plans.check_plan(plan), plan)
        with self.assertRaises(NotPlan):
            plans.check_plan(None)


if __name__ == "__main__":
    unittest.main()
