"""[65], [66], [67] Blossomed plans and long walks."""

import random
import unittest

from stringrooms import blossoms
from stringrooms.peace import sign_of
from stringrooms.walks import turned
from tests import naive
from tests.naive import CHAINED, DOUBLE, FULL, LINE, LINE_NOUGHT, LOOP, POINT, TAILED, TWELVE, raised


def naive_blossomed(plan):
    """The blossomed plan, point by point as the document tells it."""
    size, arrows, noughts = plan
    ends, tips = list(arrows), size
    new = {p: ([], []) for p in range(size)}
    for p in range(size):
        for side in (1, 0):
            for _ in range(2 - sum(e[side] == p for e in arrows)):
                new[p][1 - side].append(len(ends))
                ends.append((tips, p) if side else (p, tips))
                tips += 1
    on = {}
    for p in range(size):
        old_in = [a for a, e in enumerate(arrows) if e[1] == p]
        old_out = [a for a, e in enumerate(arrows) if e[0] == p]
        for a in old_in:
            for b in old_out:
                if (a, b) not in noughts:
                    on[a] = b
        new_in, new_out = list(new[p][0]), list(new[p][1])
        for a in old_in:
            if a not in on:
                on[a] = new_out.pop(0)
        for b in old_out:
            if b not in on.values():
                on[new_in.pop(0)] = b
        on.update(zip(new_in, new_out))
    pairs = [(a, b) for a in range(len(ends)) for b in range(len(ends))
             if ends[a][1] == ends[b][0] and on[a] != b]
    return (tips, tuple(ends), tuple(pairs))


def drawn_long(rng, plan, most=400):
    """A drawn long walk, either way round, by going on letter by letter from a tip."""
    bloom = naive_blossomed(plan)
    p = rng.randrange(plan[0], bloom[0])
    row = ()
    while not row or naive.ends(bloom, row[-1])[1] < plan[0]:
        fits = [x for x in naive.letters_of(bloom)
                if (naive.follows(bloom, row[-1], x) if row else naive.ends(bloom, x)[0] == p)]
        row += (rng.choice(fits),)
        if len(row) > most:
            return drawn_long(rng, plan, most)
    return (p, row)


def grown(plan, walk):
    """The long walk of a walk, letter by letter."""
    bloom = naive_blossomed(plan)
    for turn in (0, 1):
        row = walk[1]
        point = naive.points(bloom, walk)[-1]
        if row:
            fits = [x for x in naive.letters_of(bloom) if x >= 0 and naive.follows(bloom, row[-1], x)]
        else:
            fits = [x for x in naive.letters_of(bloom) if x >= 0 and naive.ends(bloom, x)[0] == point]
        while fits:
            row += (fits[0],)
            fits = [x for x in naive.letters_of(bloom) if x < 0 and naive.follows(bloom, row[-1], x)]
        walk = naive.about(bloom, (walk[0], row))
    return naive.string(bloom, walk)


class Blossomed(unittest.TestCase):
    def test_by_hand(self):
        # At a point without arrows two new arrows end and two begin, and go on one to one.
        self.assertEqual(blossoms.blossomed(POINT), (5, ((1, 0), (2, 0), (0, 3), (0, 4)), ((0, 3), (1, 2))))
        self.assertEqual(blossoms.blossomed(LOOP), (3, ((0, 0), (1, 0), (0, 2)), ((0, 0), (1, 2))))
        arrow = (2, ((0, 1),), ())
        self.assertEqual(blossoms.blossomed(arrow), (
            8, ((0, 1), (2, 0), (3, 0), (0, 4), (5, 1), (1, 6), (1, 7)), ((0, 6), (1, 3), (2, 0), (4, 5))))
        self.assertEqual(blossoms.blossomed(TWELVE)[0], 60)

    def test_drawn(self):
        for plan in naive.plans_for(270, 200) + [FULL] + naive.drawn_plans(271, 20, 12, 9):
            told = blossoms.blossomed(plan)
            self.assertEqual(told, naive_blossomed(plan))
            many, arrows, noughts = told
            self.assertEqual(arrows[:len(plan[1])], plan[1])
            self.assertEqual(len(arrows), 4 * plan[0] - len(plan[1]))
            self.assertEqual(many - plan[0], len(arrows) - len(plan[1]))
            self.assertEqual(list(noughts), sorted(noughts))
            for p in range(plan[0]):
                self.assertEqual([sum(e[side] == p for e in arrows) for side in (0, 1)], [2, 2])
            for tip in range(plan[0], many):
                self.assertEqual(sum(tip in e for e in arrows), 1)
            self.assertTrue(set(plan[2]) <= set(noughts))


class LongWalks(unittest.TestCase):
    def test_by_hand(self):
        self.assertEqual(blossoms.long_walk(POINT, (0, ())), (3, (-3, 3)))
        self.assertEqual(blossoms.long_mark(POINT, 0), (1, (0, -2)))
        self.assertEqual(blossoms.long_ways(POINT), ((1, (0, 2)), (2, (1, 3))))
        self.assertEqual(blossoms.short_of(POINT, (3, (-3, 3))), ("string", (0, ())))
        self.assertEqual(blossoms.short_of(POINT, (2, (1, -1))), ("less", 0))
        self.assertEqual(blossoms.short_of(POINT, (4, (-4, -2))), ("way",))
        self.assertEqual(blossoms.long_sign(POINT, (3, (-3, 3))), (1,))
        self.assertEqual(blossoms.long_sign(POINT, (1, (0, -2))), (-1,))

    def test_drawn(self):
        rng = random.Random(272)
        for plan in naive.plans_for(272, 100) + [FULL] * 3:
            for walk in [naive.drawn_walk(rng, plan, 9) for _ in range(6)]:
                told = blossoms.long_walk(plan, walk)
                self.assertEqual(told, grown(plan, walk))
                self.assertEqual(blossoms.long_walk(plan, turned(plan, walk)), told)
                self.assertIs(blossoms.check_long(plan, told), told)
                about = naive.about(naive_blossomed(plan), told)
                self.assertIs(blossoms.check_long(plan, about), about)
                self.assertLessEqual(told, about)
                for one in (told, about):
                    self.assertEqual(blossoms.short_of(plan, one), ("string", naive.string(plan, walk)))
                    self.assertEqual(blossoms.long_sign(plan, one), sign_of(plan, walk))

    def test_marks_and_ways(self):
        for plan in naive.plans_for(273, 120) + [FULL]:
            bloom = naive_blossomed(plan)
            for p in range(plan[0]):
                told = blossoms.long_mark(plan, p)
                self.assertIs(blossoms.check_long(plan, told), told)
                self.assertLessEqual(told, naive.about(bloom, told))
                first = [x < 0 for x in told[1]].index(True)
                self.assertTrue(all(x >= 0 for x in told[1][:first]) and all(x < 0 for x in told[1][first:]))
                self.assertEqual(naive.points(bloom, told)[first], p)
                for one in (told, naive.about(bloom, told)):
                    self.assertEqual(blossoms.short_of(plan, one), ("less", p))
                    self.assertEqual(blossoms.long_sign(plan, one), tuple(-int(p == q) for q in range(plan[0])))
            ways = blossoms.long_ways(plan)
            self.assertEqual(list(ways), sorted(set(ways)))
            self.assertEqual(len(ways), 2 * plan[0] - len(plan[1]))
            # Each arrow stands in just one way.
            arrows = sorted(max(x, -1 - x) for way in ways for x in way[1])
            self.assertEqual(arrows, list(range(len(bloom[1]))))
            for way in ways:
                for one in (way, naive.about(bloom, way)):
                    self.assertIs(blossoms.check_long(plan, one), one)
                    self.assertEqual(blossoms.short_of(plan, one), ("way",))
                    self.assertEqual(blossoms.long_sign(plan, one), (0,) * plan[0])
                self.assertLessEqual(way, naive.about(bloom, way))

    def test_just_one_of_the_three(self):
        rng = random.Random(274)
        met = {}
        for plan in naive.plans_for(274, 100) + [FULL] * 3:
            for value in [drawn_long(rng, plan, 60) for _ in range(6)]:
                told = blossoms.short_of(plan, value)
                met[told[0]] = met.get(told[0], 0) + 1
                value = naive.string(naive_blossomed(plan), value)
                if told[0] == "string":
                    self.assertEqual(blossoms.long_walk(plan, told[1]), value)
                elif told[0] == "less":
                    self.assertEqual(blossoms.long_mark(plan, told[1]), value)
                else:
                    self.assertIn(value, blossoms.long_ways(plan))
        self.assertEqual(len(met), 3)


class Checks(unittest.TestCase):
    def test_good_and_bad_places(self):
        rng = random.Random(275)
        met = {}
        for plan in naive.plans_for(275, 100, 5):
            bloom = naive_blossomed(plan)
            for _ in range(10):
                point, row = drawn_long(rng, plan, 40)
                letters = list(naive.letters_of(bloom))
                kind = rng.randrange(5)
                if kind == 0:
                    point = rng.randrange(bloom[0])
                elif kind == 1:
                    k = rng.randrange(len(row))
                    row = row[:k] + (rng.choice(letters),) + row[k + 1:]
                elif kind == 2:
                    row = row[:rng.randrange(1, len(row) + 1)]
                elif kind == 3:
                    k = rng.randrange(len(row))
                    point, row = naive.ends(bloom, row[k])[0], row[k:]
                told = -2
                for k, x in reversed(list(enumerate(row))):
                    good = naive.follows(bloom, row[k - 1], x) if k else naive.ends(bloom, x)[0] == point
                    told = told if good else k
                if told == -2 and (point < plan[0] or naive.ends(bloom, row[-1])[1] < plan[0]):
                    told = len(row)
                value = (point, row)
                expected = ("nothing raised", value) if told == -2 else ("NotWalk", told)
                self.assertEqual(raised(blossoms.check_long, plan, value), expected)
                met[expected[0], told == len(row)] = True
        self.assertEqual(len(met), 3)

    def test_values_of_other_kinds(self):
        bloom = naive_blossomed(LINE)
        good = blossoms.long_walk(LINE, (1, ()))
        many = len(bloom[1])
        point, row = good
        for value in naive.ODD_VALUES + (
                list(good), good + (0,), (point, list(row)), (point, ()), (bloom[0], row), (-1, row), (True, row),
                (None, row), (point, row + (many,)), (point, row + (-1 - many,)), (point, row + (True,)),
                (point, row + (None,)), (point, (row[0], 1.0)), (point, row + ("0",)), (point, "ab"), (0,)):
            self.assertEqual(raised(blossoms.check_long, LINE, value), ("NotWalk", -1), value)
        self.assertEqual(raised(blossoms.check_long, LINE, (point, row + (0,)))[0], "NotWalk")
        self.assertEqual(raised(blossoms.check_long, LINE, (0, (0,))), ("NotWalk", 1))
        self.assertEqual(raised(blossoms.check_long, LINE, (1, (0,))), ("NotWalk", 0))
        # A walk of the plan alone begins at no tip.
        self.assertEqual(raised(blossoms.check_long, LINE, (0, (0, 1))), ("NotWalk", 2))

    def test_400_letters_and_401(self):
        fits = {}
        for plan in (DOUBLE, TAILED, CHAINED):
            rng = random.Random(276)
            for _ in range(40):
                walk = naive.drawn_walk(rng, plan, 0)
                while len(walk[1]) < 420:
                    behind = [x for x in naive.letters_of(plan)
                              if (naive.follows(plan, walk[1][-1], x) if walk[1] else naive.ends(plan, x)[0] == walk[0])]
                    if not behind:
                        break
                    walk = (walk[0], walk[1] + (rng.choice(behind),))
                    if len(walk[1]) > 380:
                        told = blossoms.long_walk(plan, walk)
                        fits.setdefault(len(told[1]), (plan, told))
        for length in (399, 400, 401, 402):
            plan, told = fits[length]
            self.assertEqual(len(told[1]), length)
            if length <= 400:
                self.assertIs(blossoms.check_long(plan, told), told)
            else:
                self.assertEqual(raised(blossoms.check_long, plan, told), ("NotWalk", -1))
                self.assertEqual(blossoms.short_of(plan, told)[0], "string")


if __name__ == "__main__":
    unittest.main()
