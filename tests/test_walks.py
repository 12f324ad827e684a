"""[3], [18], [19], [20] Walks, their strings, and lists of strings."""

import random
import unittest

from stringrooms import walks
from stringrooms.counting import string_number
from stringrooms.forms import beside
from stringrooms.plans import renamed, turned_plan
from tests import naive
from tests.naive import DOUBLE, LINE, LOOP, POINT, RING, TWELVE, raised


class Check(unittest.TestCase):
    def bad(self, plan, value, place):
        self.assertEqual(raised(walks.check_walk, plan, value), ("NotWalk", place), value)

    def test_form(self):
        for value in naive.ODD_VALUES:
            self.bad(DOUBLE, value, -1)
        for value in ((2, ()), (-1, ()), (True, ()), (0.0, ()), ("0", ()), (0, [0]), (0, (2,)), (0, (-3,)), (0, (True,)),
                      (0, (None,)), (0, (0, "1")), (0, ((0,),)), (0, (0,), ()), [0, ()], (0, 0), (0, "")):
            self.bad(DOUBLE, value, -1)
        self.bad(POINT, (0, (0,)), -1)
        self.bad(POINT, (0, (-1,)), -1)
        self.assertEqual(walks.check_walk(POINT, (0, ())), (0, ()))

    def test_lengths(self):
        good = (0, (0, -2) * 30)
        self.assertIs(walks.check_walk(DOUBLE, good), good)
        self.bad(DOUBLE, (0, (0, -2) * 30 + (0,)), -1)
        self.bad(DOUBLE, (0, (0, -2) * 29 + (0, -1)), 59)

    def test_places(self):
        self.bad(DOUBLE, (1, (0,)), 0)
        self.bad(DOUBLE, (0, (-1,)), 0)
        self.bad(DOUBLE, (0, (0, -1)), 1)
        self.bad(DOUBLE, (0, (0, 1)), 1)
        self.bad(DOUBLE, (1, (0, 0, 0)), 0)
        self.bad(DOUBLE, (0, (0, -2, 1)), 2)
        self.bad(DOUBLE, (0, (0, -2, 1, 5)), -1)
        self.bad(naive.LINE_NOUGHT, (0, (0, 1)), 1)
        self.bad(naive.LINE_NOUGHT, (2, (-2, -1)), 1)
        self.assertTrue(walks.check_walk(LINE, (2, (-2, -1))))
        self.bad(LOOP, (0, (0, 0)), 1)
        self.bad(LOOP, (0, (-1, -1)), 1)
        self.bad(LOOP, (0, (0, -1)), 1)

    def test_against_the_definition(self):
        rng = random.Random(40)
        for plan in naive.plans_for(40, 60, 4):
            every = {w for n in range(4) for w in naive.walks(plan, n)}
            for walk in every:
                self.assertIs(walks.check_walk(plan, walk), walk)
            for _ in range(30 if plan[1] else 0):
                row = tuple(rng.choice(naive.letters_of(plan)) for _ in range(rng.randint(0, 3)))
                walk = (rng.randrange(plan[0]), row)
                if walk not in every:
                    starts = [k for k in range(len(row)) if (walk[0], row[:k + 1]) not in every]
                    self.bad(plan, walk, starts[0])


class Told(unittest.TestCase):
    def test_by_hand(self):
        walk = (1, (-1, 1, -1))
        self.assertEqual(walks.points_of(DOUBLE, walk), (1, 0, 1, 0))
        self.assertEqual(walks.end_of(DOUBLE, walk), 0)
        self.assertEqual(walks.sizes_of(DOUBLE, walk), (2, 2))
        self.assertEqual(walks.turned(DOUBLE, walk), (0, (0, -2, 0)))
        self.assertEqual(walks.string_of(DOUBLE, walk), (0, (0, -2, 0)))
        self.assertEqual(walks.goings(DOUBLE, walk), (1,))
        self.assertEqual(walks.goings(DOUBLE, (1, ())), (-2, -1))
        self.assertEqual(walks.goings(LOOP, (0, ())), (-1, 0))
        self.assertEqual(walks.sizes_of(TWELVE, (11, ())), (0,) * 11 + (1,))
        self.assertEqual(walks.string_of(LOOP, (0, (0,))), (0, (-1,)))

    def test_joined(self):
        self.assertEqual(walks.joined(DOUBLE, (0, (0,)), (1, (-2, 0))), (0, (0, -2, 0)))
        self.assertIsNone(walks.joined(DOUBLE, (0, (0,)), (1, (-1, 1))))
        self.assertIsNone(walks.joined(naive.LINE_NOUGHT, (0, (0,)), (1, (1,))))
        self.assertEqual(walks.joined(DOUBLE, (0, ()), (0, (0,))), (0, (0,)))
        self.assertEqual(walks.joined(DOUBLE, (0, (0,)), (1, ())), (0, (0,)))
        self.assertEqual(walks.joined(DOUBLE, (0, ()), (0, ())), (0, ()))
        self.assertEqual(raised(walks.joined, DOUBLE, (0, (0,)), (0, (1,))), ("Unlike",))
        self.assertEqual(raised(walks.joined, DOUBLE, (0, ()), (1, ())), ("Unlike",))
        long = (0, (0, -2) * 30)
        self.assertEqual(walks.joined(DOUBLE, long, long), (0, (0, -2) * 60))

    def test_against_the_definition(self):
        for plan in naive.plans_for(41, 40, 4):
            every = [w for n in range(4) for w in naive.walks(plan, n)]
            for walk in every:
                places = naive.points(plan, walk)
                self.assertEqual(walks.points_of(plan, walk), tuple(places))
                self.assertEqual(walks.end_of(plan, walk), places[-1])
                self.assertEqual(walks.sizes_of(plan, walk), tuple(places.count(p) for p in range(plan[0])))
                about = walks.turned(plan, walk)
                self.assertEqual(about, naive.about(plan, walk))
                self.assertIn(about, every)
                self.assertEqual(walks.turned(plan, about), walk)
                self.assertEqual(walks.string_of(plan, walk), min(walk, about))
                self.assertEqual(walks.string_of(plan, about), min(walk, about))
                longer = [w[1][-1] for w in naive.walks(plan, len(walk[1]) + 1)
                          if w[0] == walk[0] and w[1][:-1] == walk[1]]
                self.assertEqual(walks.goings(plan, walk), tuple(sorted(longer)))
            every = set(every)
            for walk in naive.walks(plan, 1) + naive.walks(plan, 2):
                for other in naive.walks(plan, 1) + naive.walks(plan, 0):
                    if walks.end_of(plan, walk) != other[0]:
                        self.assertEqual(raised(walks.joined, plan, walk, other), ("Unlike",))
                    else:
                        both = (walk[0], walk[1] + other[1])
                        self.assertEqual(walks.joined(plan, walk, other), both if both in every else None)


class Strings(unittest.TestCase):
    def test_by_hand(self):
        self.assertEqual(walks.strings(LOOP, 0), ((0, ()),))
        self.assertEqual(walks.strings(LOOP, 1), ((0, (-1,)),))
        self.assertEqual(walks.strings(LOOP, 2), ())
        self.assertEqual(walks.strings(LINE, 2), ((0, (0, 1)),))
        self.assertEqual(walks.strings_upto(TWELVE, 60), tuple((p, ()) for p in range(12)))
        self.assertEqual(walks.strings_upto(DOUBLE, 1), ((0, ()), (0, (0,)), (0, (1,)), (1, ())))
        self.assertEqual(walks.strings(DOUBLE, 60), ((0, (0, -2) * 30), (1, (-2, 0) * 30)))

    def test_against_the_definition(self):
        for plan in naive.plans_for(42, 60, 5):
            met = []
            for length in range(6):
                told = naive.strings(plan, length)
                met += told
                self.assertEqual(walks.strings(plan, length), tuple(told))
                self.assertEqual(walks.strings_upto(plan, length), tuple(sorted(met)))

    def test_too_great(self):
        seen = {True: 0, False: 0}
        for plan in naive.drawn_plans(43, 120, 7):
            total = plan[0]
            rows = [(x,) for x in naive.letters_of(plan)]
            for length in range(1, 30):
                if len(rows) > 9000:
                    break
                great = len(rows) > 4000
                told = raised(walks.strings, plan, length)
                self.assertEqual(told == ("TooGreat", 2000), great)
                total += len(rows) // 2
                upto = raised(walks.strings_upto, plan, length)
                self.assertEqual(upto == ("TooGreat", 2000), total > 2000)
                if not great:
                    self.assertEqual(len(told[1]), len(rows) // 2)
                seen[great] += 1
                rows = [row + (x,) for row in rows for x in naive.letters_of(plan) if naive.follows(plan, row[-1], x)]
        self.assertGreater(min(seen.values()), 0)
        self.assertEqual(raised(walks.strings, naive.FULL, 60), ("TooGreat", 2000))
        self.assertEqual(raised(walks.strings_upto, naive.FULL, 60), ("TooGreat", 2000))

    def test_just_two_thousand(self):
        # In this plan there are two strings of each length, in each part; a bare point counts once.
        four = (2, ((0, 1), (0, 1)), ())
        self.assertEqual(len(walks.strings_upto(four, 60)), 122)
        self.assertEqual(len(walks.strings_upto(four, 999)), 2000)
        self.assertEqual(raised(walks.strings_upto, four, 1000), ("TooGreat", 2000))
        self.assertEqual(raised(walks.strings_upto, (3, four[1], ()), 999), ("TooGreat", 2000))
        one = (4, ((0, 0), (0, 1), (2, 0), (1, 1), (1, 3), (2, 3)), ((0, 0), (1, 4), (2, 1), (3, 3)))
        two = (6, ((0, 0), (1, 2), (2, 1), (2, 3), (3, 2), (4, 1), (1, 5), (3, 4), (5, 3)),
               ((0, 0), (1, 3), (2, 1), (3, 4), (4, 2), (5, 6), (6, 8), (8, 7)))
        self.assertEqual(len(walks.strings(beside(one, two), 12)), 2000)
        one = (3, ((0, 0), (0, 1), (1, 2), (1, 2), (2, 1)), ((0, 0), (1, 3), (3, 4), (4, 2)))
        two = (6, ((0, 0), (0, 1), (1, 2), (2, 1), (2, 3), (3, 2), (3, 4), (4, 4), (4, 5), (5, 5)),
               ((0, 0), (2, 3), (3, 2), (4, 5), (5, 4), (6, 8), (7, 7), (9, 9)))
        self.assertEqual(raised(walks.strings, beside(one, two), 11), ("TooGreat", 2000))
        self.assertEqual(string_number(beside(one, two), 11), 2001)


class Elsewhere(unittest.TestCase):
    def test_in_renamed_plan(self):
        self.assertEqual(walks.in_renamed_plan(DOUBLE, (0, (0, -2)), (1, 0), (1, 0)), (1, (1, -1)))
        rng = random.Random(44)
        for plan in naive.plans_for(44, 40):
            points, arrows = list(range(plan[0])), list(range(len(plan[1])))
            rng.shuffle(points)
            rng.shuffle(arrows)
            other = renamed(plan, tuple(points), tuple(arrows))
            for _ in range(10):
                walk = naive.drawn_walk(rng, plan)
                told = walks.in_renamed_plan(plan, walk, tuple(points), tuple(arrows))
                self.assertIs(walks.check_walk(other, told), told)
                self.assertEqual(list(walks.points_of(other, told)), [points[p] for p in naive.points(plan, walk)])
                self.assertEqual([x >= 0 for x in told[1]], [x >= 0 for x in walk[1]])

    def test_in_turned_plan(self):
        self.assertEqual(walks.in_turned_plan(RING, (1, (-1, )), ), (1, (0,)))
        rng = random.Random(45)
        for plan in naive.plans_for(45, 40):
            other = turned_plan(plan)
            for _ in range(10):
                walk = naive.drawn_walk(rng, plan)
                told = walks.in_turned_plan(plan, walk)
                self.assertIs(walks.check_walk(other, told), told)
                self.assertEqual(walks.points_of(other, told), walks.points_of(plan, walk))
                self.assertEqual(told[1], tuple(-1 - x for x in walk[1]))


if __name__ == "__main__":
    unittest.main()
