"""[51], [52], [53], [54] Strings translated, and roads."""

import random
import unittest

from stringrooms import roads, translating
from stringrooms.layers import hull_of
from stringrooms.pieces import map_number
from stringrooms.plans import turned_plan
from stringrooms.rounds import all_strings, has_bands
from stringrooms.walks import check_walk, in_turned_plan, sizes_of, strings_upto, turned
from tests import naive
from tests.naive import CHAINED, DOUBLE, FORK, LINE, LOOP, POINT, RING, TAILED, raised


def cover_of(plan, point):
    """The string of all ways from a point: the hull in the plan with all arrows turned."""
    return naive.string(plan, in_turned_plan(turned_plan(plan), hull_of(turned_plan(plan), point)))


def naive_row(plan, arrow, hooking):
    """A hook or a pull by an arrow, from its definition."""
    first = -1 - arrow if hooking else arrow
    row = (first,)
    there = naive.ends(plan, first)[1]
    others = [x for x in naive.letters_of(plan) if naive.ends(plan, x)[0] == there
              and (x >= 0) == hooking and x != -1 - first]
    while others:
        row += (others[0],)
        others = [x for x in naive.letters_of(plan) if naive.follows(plan, row[-1], x) and (x >= 0) == hooking]
    return row


def naive_rows(plan, walk, hooking):
    def right(one):
        found = [x for x in naive.letters_of(plan) if (x < 0) == hooking and naive.follows(plan, one[1][-1], x)]
        assert len(found) <= 1
        return naive_row(plan, max(found[0], -1 - found[0]), hooking) if found else ()
    if walk[1]:
        return (right(naive.about(plan, walk)), right(walk))
    side = 1 if hooking else 0
    arrows = [a for a in range(len(plan[1])) if plan[1][a][side] == walk[0]]
    rows = [naive_row(plan, a, hooking) for a in arrows] + [(), ()]
    return (rows[1], rows[0])


def naive_step(plan, walk, hooking):
    left, right = naive_rows(plan, walk, hooking)
    if left and right:
        about = naive.about(plan, (walk[0], walk[1] + right))
        return naive.string(plan, (about[0], about[1] + left))
    if left:
        walk, right = naive.about(plan, walk), left
    row = walk[1] + right
    points = naive.points(plan, (walk[0], row))
    firsts = [k for k, x in enumerate(row) if (x < 0) == hooking]
    if right:
        k = firsts[0]
        return naive.string(plan, (points[k + 1], row[k + 1:]))
    lasts = [k for k, x in enumerate(row) if (x >= 0) == hooking]
    if firsts and lasts and firsts[0] < lasts[-1]:
        return naive.string(plan, (points[firsts[0] + 1], row[firsts[0] + 1:lasts[-1]]))
    return None


def naive_middle(plan, walk, hooking):
    left, right = naive_rows(plan, walk, hooking)
    found = []
    for one, row in ((walk, right), (naive.about(plan, walk), left)):
        if row:
            found.append((one[0], one[1] + row))
        else:
            lasts = [k for k, x in enumerate(one[1]) if (x >= 0) == hooking]
            if lasts:
                found.append((one[0], one[1][:lasts[-1]]))
    return tuple(sorted(naive.string(plan, one) for one in found))


def sample(rng, plan, many=12, most=9):
    return [naive.drawn_walk(rng, plan, most) for _ in range(many)]


class Hooks(unittest.TestCase):
    def test_by_hand(self):
        self.assertEqual(translating.hooks(POINT, (0, ())), ((), ()))
        self.assertEqual(translating.hooks(LINE, (2, ())), ((), (-2,)))
        self.assertEqual(translating.hooks(FORK, (1, ())), ((-2,), (-1,)))
        self.assertEqual(translating.hooks(DOUBLE, (1, ())), ((-2, 0), (-1, 1)))
        self.assertEqual(translating.pulled(DOUBLE, (0, ())), ((1, -1), (0, -2)))
        self.assertEqual(translating.pulled(DOUBLE, (1, ())), ((), ()))
        self.assertEqual(translating.hooks(DOUBLE, (0, (0,))), ((), (-2, 0)))
        self.assertEqual(translating.hooks(DOUBLE, (1, (-1,))), ((-2, 0), ()))
        self.assertEqual(translating.pulled(LINE, (0, ())), ((), (0,)))
        self.assertEqual(translating.hooks(LOOP, (0, ())), ((), (-1,)))
        # Along the ways that go on as far as they go.
        plan = (4, ((0, 1), (0, 2), (2, 3)), ())
        self.assertEqual(translating.hooks(plan, (1, ())), ((), (-1, 1, 2)))

    def test_drawn(self):
        rng = random.Random(160)
        for plan in naive.plans_for(160, 120) + [naive.FULL] * 3:
            for walk in sample(rng, plan):
                for hooking, call in ((True, translating.hooks), (False, translating.pulled)):
                    told = call(plan, walk)
                    self.assertEqual(told, naive_rows(plan, walk, hooking))
                    about = naive.about(plan, walk)
                    if walk[1]:
                        self.assertEqual(call(plan, about), (told[1], told[0]))
                    for one, row in ((walk, told[1]), (about, told[0])):
                        check_walk(plan, (one[0], one[1] + row))
                    self.assertIs(roads.grows(plan, walk), all(translating.hooks(plan, walk)))


class Steps(unittest.TestCase):
    def test_by_hand(self):
        self.assertEqual(translating.forth(LINE, (2, ())), (1, ()))
        self.assertEqual(translating.forth(LINE, (1, ())), (0, ()))
        self.assertIsNone(translating.forth(LINE, (0, ())))
        self.assertEqual(translating.back(LINE, (1, ())), (2, ()))
        self.assertIsNone(translating.back(LINE, (2, ())))
        self.assertEqual(translating.forth(DOUBLE, (1, ())), (1, (-2, 0, -2, 0)))
        self.assertEqual(sizes_of(DOUBLE, translating.forth(DOUBLE, (1, ()))), (2, 3))
        self.assertEqual(translating.forth(DOUBLE, (0, (0,))), (0, (0,)))
        self.assertEqual(translating.forth_times(LINE, (2, ()), 2), (0, ()))
        self.assertIsNone(translating.forth_times(LINE, (2, ()), 3))
        self.assertEqual(translating.forth_times(LINE, (2, (-2,)), 0), (1, (1,)))
        self.assertEqual(translating.forth_times(LINE, (0, ()), -2), (2, ()))
        self.assertIsNone(translating.forth_times(LINE, (0, ()), -3))

    def test_drawn(self):
        rng = random.Random(161)
        for plan in naive.plans_for(161, 120) + [naive.FULL] * 3:
            hulls = [hull_of(plan, p) for p in range(plan[0])]
            covers = [cover_of(plan, p) for p in range(plan[0])]
            for walk in sample(rng, plan) + hulls + covers:
                string = naive.string(plan, walk)
                there, before = translating.forth(plan, walk), translating.back(plan, walk)
                self.assertEqual(there, naive_step(plan, walk, True))
                self.assertEqual(before, naive_step(plan, walk, False))
                self.assertEqual(there is None, string in hulls)
                self.assertEqual(before is None, string in covers)
                self.assertEqual(translating.forth(plan, turned(plan, walk)), there)
                if there is not None:
                    self.assertEqual(translating.back(plan, there), string)
                    self.assertEqual(there, naive.string(plan, there))
                if before is not None:
                    self.assertEqual(translating.forth(plan, before), string)
                other = turned_plan(plan)
                about = translating.back(other, in_turned_plan(plan, walk))
                self.assertEqual(about is None, there is None)
                if about is not None:
                    self.assertEqual(naive.string(plan, in_turned_plan(other, about)), there)

    def test_forth_times(self):
        rng = random.Random(162)
        for plan in naive.plans_for(162, 60):
            walk = naive.drawn_walk(rng, plan, 6)
            for number in (-60, -7, -1, 0, 1, 2, 60):
                told = naive.string(plan, walk)
                for _ in range(abs(number)):
                    if told is not None:
                        told = naive_step(plan, told, number > 0)
                self.assertEqual(translating.forth_times(plan, walk, number), told)
        # Each step on from here has four units more.
        told = translating.forth_times(DOUBLE, (1, ()), 60)
        self.assertEqual(sizes_of(DOUBLE, told), (120, 121))
        self.assertEqual(translating.forth_times(DOUBLE, told, -60), (1, ()))

    def test_middle(self):
        self.assertEqual(translating.middle(LINE, (2, ())), ((1, (1,)),))
        self.assertEqual(translating.back_middle(LINE, (0, ())), ((0, (0,)),))
        self.assertEqual(translating.middle(POINT, (0, ())), ())
        self.assertEqual(translating.almost_split(LINE, (2, ())), ((2, ()), ((1, (1,)),), (1, ())))
        self.assertEqual(translating.almost_split(LINE, (2, (-2,)))[0], (1, (1,)))
        self.assertEqual(raised(translating.almost_split, LINE, (0, ())), ("NoWay",))
        rng = random.Random(163)
        for plan in naive.plans_for(163, 120):
            for walk in sample(rng, plan):
                self.assertEqual(translating.middle(plan, walk), naive_middle(plan, walk, True))
                self.assertEqual(translating.back_middle(plan, walk), naive_middle(plan, walk, False))
                there = translating.forth(plan, walk)
                if there is None:
                    self.assertEqual(raised(translating.almost_split, plan, walk), ("NoWay",))
                    continue
                told = translating.almost_split(plan, walk)
                self.assertEqual(told, (naive.string(plan, walk), translating.middle(plan, walk), there))
                self.assertEqual(translating.back_middle(plan, there), told[1])
                sums = [sum(column) for column in zip(*[sizes_of(plan, one) for one in told[1]])]
                self.assertEqual([a + b for a, b in zip(sizes_of(plan, walk), sizes_of(plan, there))],
                                 sums or [0] * plan[0])

    def test_numbers_of_maps(self):
        rng = random.Random(164)
        for plan in naive.plans_for(164, 40, 5):
            others = list(strings_upto(plan, 3))[:40] + sample(rng, plan, 5)
            for walk in sample(rng, plan, 4, 6):
                string, there = naive.string(plan, walk), translating.forth(plan, walk)
                middle, back_middle = translating.middle(plan, walk), translating.back_middle(plan, walk)
                for x in others:
                    told = map_number(plan, walk, x) - sum(map_number(plan, one, x) for one in middle)
                    if there is not None:
                        told += map_number(plan, there, x)
                        into = map_number(plan, x, walk) - sum(map_number(plan, x, one) for one in middle)
                        into += map_number(plan, x, there)
                        self.assertEqual(into, int(naive.string(plan, x) == there))
                    self.assertEqual(told, int(naive.string(plan, x) == string))
                    if translating.back(plan, walk) is None:
                        into = map_number(plan, x, walk) - sum(map_number(plan, x, one) for one in back_middle)
                        self.assertEqual(into, int(naive.string(plan, x) == string))


class Roads(unittest.TestCase):
    def test_by_hand(self):
        self.assertEqual(roads.road(LINE, (2, ()), 400), ("end", 2))
        self.assertEqual(roads.road(LINE, (2, ()), 2), ("end", 2))
        self.assertEqual(raised(roads.road, LINE, (2, ()), 1), ("TooGreat", 1))
        self.assertEqual(roads.road(LINE, (0, ()), 1), ("end", 0))
        self.assertEqual(roads.road_back(LINE, (0, ()), 2), ("end", 2))
        self.assertEqual(raised(roads.road_back, LINE, (0, ()), 1), ("TooGreat", 1))
        self.assertEqual(roads.road(DOUBLE, (0, (0,)), 1), ("ring", 1))
        self.assertEqual(roads.road_back(DOUBLE, (1, (-1,)), 400), ("ring", 1))
        self.assertEqual(raised(roads.road, DOUBLE, (1, ()), 400), ("TooGreat", 400))
        self.assertEqual(roads.road_back(DOUBLE, (1, ()), 400), ("end", 0))
        self.assertEqual(raised(roads.road_back, DOUBLE, (0, ()), 400), ("TooGreat", 400))
        self.assertEqual(roads.rows_of(LINE, (2, ()), 60), ((0, 0, 1), (0, 1, 0), (1, 0, 0)))
        self.assertEqual(roads.rows_of(LINE, (2, ()), 1), ((0, 0, 1), (0, 1, 0)))
        self.assertEqual(roads.rows_of(DOUBLE, (1, ()), 3), ((0, 1), (2, 3), (4, 5), (6, 7)))
        self.assertIs(roads.grows(DOUBLE, (1, ())), True)
        self.assertIs(roads.grows(DOUBLE, (0, (0,))), False)
        self.assertIs(roads.grows(LINE, (2, ())), False)
        self.assertEqual(len(roads.rows_of(DOUBLE, (0, (0,)), 400)), 401)

    def test_drawn(self):
        rng = random.Random(165)
        met = {}
        for plan in naive.plans_for(165, 150) + [RING, TAILED, CHAINED] * 5:
            for walk in sample(rng, plan, 3, 6):
                for hooking, call in ((True, roads.road), (False, roads.road_back)):
                    most = rng.choice((1, 2, 3, 5, 30))
                    row = [naive.string(plan, walk)]
                    while row[-1] is not None and len(row) <= most + 1 and row[-1] not in row[:-1]:
                        row.append(naive_step(plan, row[-1], hooking))
                    if row[-1] is None:
                        told = ("nothing raised", ("end", len(row) - 2))
                    elif row[-1] in row[:-1] and len(row) - 1 <= most:
                        self.assertEqual(row[-1], row[0])
                        told = ("nothing raised", ("ring", len(row) - 1))
                    else:
                        told = ("TooGreat", most)
                    self.assertEqual(raised(call, plan, walk, most), told)
                    kind = told[1][0] if told[0] == "nothing raised" else told[0]
                    met[kind] = met.get(kind, 0) + 1
                    if hooking:
                        units = [sizes_of(plan, one) for one in row[:most + 1] if one is not None]
                        rows = roads.rows_of(plan, walk, most)
                        self.assertEqual(list(rows[:len(units)]), units)
                        self.assertLessEqual(len(rows), most + 1)
        self.assertGreater(min(met.values()), 20)
        self.assertEqual(len(met), 3)

    def test_without_bands_all_end_or_are_rings(self):
        for plan in naive.plans_for(166, 60, 5):
            if not has_bands(plan):
                for string in all_strings(plan)[:60]:
                    self.assertIn(roads.road(plan, string, 400)[0], ("end", "ring"))

    def test_rows_are_sizes(self):
        rng = random.Random(167)
        for plan in naive.plans_for(167, 60):
            walk = naive.drawn_walk(rng, plan, 6)
            told, here = [], naive.string(plan, walk)
            while here is not None and len(told) < 10:
                told.append(sizes_of(plan, here))
                here = translating.forth(plan, here)
            self.assertEqual(roads.rows_of(plan, walk, 9), tuple(told))


if __name__ == "__main__":
    unittest.main()
