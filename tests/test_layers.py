"""[9], [47], [48], [49], [50] Parts of rooms of walks."""

import itertools
import random
import unittest

from stringrooms import layers, rooms
from stringrooms.rounds import begun_at
from stringrooms.walks import check_walk
from tests import naive, naive_rooms
from tests.naive import CHAINED, DOUBLE, LINE, LOOP, POINT, raised
from tests.naive_rooms import mul, rank, walk_room


def leading(row):
    """The pairs of places of which a letter leads the first one to the second one."""
    return [(k, k + 1) if x >= 0 else (k + 1, k) for k, x in enumerate(row)]


def closed(row):
    """All closed sets of places, by trying each."""
    return sorted(lot for n in range(len(row) + 2) for lot in itertools.combinations(range(len(row) + 1), n)
                  if all(b in lot for a, b in leading(row) if a in lot))


def hull(plan, point):
    rows = []
    for a in range(len(plan[1])):
        if plan[1][a][1] == point:
            row = (a,)
            while True:
                ahead = [b for b in range(len(plan[1])) if naive.follows(plan, b, row[0])]
                if not ahead:
                    break
                row = (ahead[0],) + row
            rows.append(row)
    rows += [()] * (2 - len(rows))
    letters = rows[0] + tuple(-1 - a for a in reversed(rows[1]))
    start = naive.ends(plan, letters[0])[0] if letters else point
    return naive.string(plan, (start, letters))


class Tops(unittest.TestCase):
    def test_by_hand(self):
        self.assertEqual(layers.tops(POINT, (0, ())), (0,))
        self.assertEqual(layers.low_places(POINT, (0, ())), (0,))
        self.assertEqual(layers.tops(LINE, (0, (0, 1))), (0,))
        self.assertEqual(layers.low_places(LINE, (0, (0, 1))), (2,))
        walk = (1, (-1, 1, -1))
        self.assertEqual(layers.tops(DOUBLE, walk), (1, 3))
        self.assertEqual(layers.low_places(DOUBLE, walk), (0, 2))
        self.assertEqual(layers.cover_points(DOUBLE, walk), (0, 0))
        self.assertEqual(layers.hull_points(DOUBLE, walk), (1, 1))
        self.assertEqual(layers.round_tops(DOUBLE, (0, -2)), (0,))
        self.assertEqual(layers.round_low_places(DOUBLE, (0, -2)), (1,))
        self.assertEqual(layers.round_tops(DOUBLE, (-2, 0)), (1,))
        # The arrow 0 stands behind another letter along, and behind another one against.
        self.assertEqual(layers.round_low_places((3, ((1, 2), (0, 1), (0, 2)), ()), (1, 0, -3)), (2,))
        self.assertEqual(layers.round_tops((3, ((0, 1), (0, 2), (1, 2)), ()), (-3, -1, 1)), (2,))
        self.assertEqual(layers.round_tops((3, ((0, 1), (0, 2), (2, 1)), ()), (0, -3, -2)), (0,))
        self.assertEqual(layers.round_tops((3, ((0, 1), (1, 2), (0, 2)), ()), (0, 1, -3)), (0,))

    def test_drawn(self):
        rng = random.Random(150)
        for plan in naive.plans_for(150, 100):
            walk = naive.drawn_walk(rng, plan, 14)
            points, arrows = naive.points(plan, walk), leading(walk[1])
            tops = [k for k in range(len(points)) if k not in [b for _, b in arrows]]
            lows = [k for k in range(len(points)) if k not in [a for a, _ in arrows]]
            self.assertEqual(layers.tops(plan, walk), tuple(tops))
            self.assertEqual(layers.low_places(plan, walk), tuple(lows))
            self.assertEqual(layers.cover_points(plan, walk), tuple(sorted(points[k] for k in tops)))
            self.assertEqual(layers.hull_points(plan, walk), tuple(sorted(points[k] for k in lows)))
            inner = [k for k in lows if 0 < k < len(walk[1])]
            self.assertEqual(len(inner), len(tops) - 1)
            row = naive.drawn_round(rng, plan, 10)
            if row:
                n = len(row)
                self.assertEqual(layers.round_tops(plan, row),
                                 tuple(k for k in range(n) if row[k - 1] < 0 and row[k] >= 0))
                self.assertEqual(layers.round_low_places(plan, row),
                                 tuple(k for k in range(n) if row[k - 1] >= 0 and row[k] < 0))
                self.assertEqual(len(layers.round_tops(plan, begun_at(row, 1))), len(layers.round_low_places(plan, row)))

    def test_hull_of(self):
        self.assertEqual(layers.hull_of(POINT, 0), (0, ()))
        self.assertEqual(layers.hull_of(LINE, 2), (0, (0, 1)))
        self.assertEqual(layers.hull_of(DOUBLE, 1), (0, (0, -2)))
        self.assertEqual(layers.hull_of(DOUBLE, 0), (0, ()))
        self.assertEqual(layers.hull_of(LOOP, 0), (0, (-1,)))
        for plan in naive.plans_for(151, 100) + [naive.FULL]:
            for point in range(plan[0]):
                told = layers.hull_of(plan, point)
                self.assertEqual(told, hull(plan, point))
                self.assertEqual(layers.hull_points(plan, told), (point,))


class Sets(unittest.TestCase):
    def test_sub_strings(self):
        self.assertEqual(layers.sub_strings(LINE, (0, (0, 1))), ((0, (0, 1)), (1, (1,)), (2, ())))
        self.assertEqual(layers.let_go_strings(LINE, (0, (0, 1))), ((0, ()), (0, (0,)), (0, (0, 1))))
        rng = random.Random(152)
        for plan in naive.plans_for(152, 60):
            walk = naive.drawn_walk(rng, plan, 10)
            n, points = len(walk[1]), naive.points(plan, walk)
            arrows = leading(walk[1])
            subs, gone = set(), set()
            for i in range(n + 1):
                for j in range(i, n + 1):
                    lot = range(i, j + 1)
                    string = naive.string(plan, (points[i], walk[1][i:j]))
                    if all(b in lot for a, b in arrows if a in lot):
                        subs.add(string)
                    if all(a in lot for a, b in arrows if b in lot):
                        gone.add(string)
            self.assertEqual(layers.sub_strings(plan, walk), tuple(sorted(subs)))
            self.assertEqual(layers.let_go_strings(plan, walk), tuple(sorted(gone)))

    def test_closed_sets(self):
        self.assertEqual(layers.closed_sets(POINT, (0, ())), ((), (0,)))
        self.assertEqual(layers.closed_sets(LINE, (0, (0, 1))), ((), (0, 1, 2), (1, 2), (2,)))
        self.assertEqual(layers.closed_number(LINE, (0, (0, 1))), 4)
        rng = random.Random(153)
        great = 0
        for plan in naive.plans_for(153, 100) + [DOUBLE] * 10:
            walk = naive.drawn_walk(rng, plan, 13)
            found = closed(walk[1])
            self.assertEqual(layers.closed_number(plan, walk), len(found))
            told = raised(layers.closed_sets, plan, walk)
            if len(found) > 400:
                great += 1
                self.assertEqual(told, ("TooGreat", 400))
            else:
                self.assertEqual(told, ("nothing raised", tuple(found)))
        self.assertGreater(great, 0)

    def test_four_hundred(self):
        plan = (5, ((4, 0), (0, 0), (1, 2), (0, 2), (2, 3), (4, 3), (1, 1)), ((0, 3), (1, 1), (2, 4), (6, 6)))
        walk = check_walk(plan, (4, (0, -2, -1, 5, -5, -4, 1, -1, 5, -5, -4, -2, -1)))
        self.assertEqual(layers.closed_number(plan, walk), 400)
        self.assertEqual(layers.closed_sets(plan, walk), tuple(closed(walk[1])))
        plan = (3, ((1, 0), (1, 0), (0, 2), (0, 2)), ((0, 2), (1, 3)))
        walk = check_walk(plan, (2, (-3, -2, 0, -2, 0, -2, 0, 3, -3, 3, -3, -2)))
        self.assertEqual(layers.closed_number(plan, walk), 401)
        self.assertEqual(raised(layers.closed_sets, plan, walk), ("TooGreat", 400))
        # The number itself is told however great it is.
        self.assertEqual(layers.closed_number(DOUBLE, (0, (0, -2) * 30)), 6557470319842)
        self.assertEqual(raised(layers.closed_sets, DOUBLE, (0, (0, -2) * 30)), ("TooGreat", 400))

    def test_set_strings(self):
        self.assertEqual(layers.set_strings(DOUBLE, (0, (0, -2)), (1,)), (((1, ()),), ((0, ()), (0, ()))))
        self.assertEqual(layers.set_strings(POINT, (0, ()), ()), ((), ((0, ()),)))
        self.assertEqual(layers.set_strings(POINT, (0, ()), (0,)), (((0, ()),), ()))
        rng = random.Random(154)
        for plan in naive.plans_for(154, 60):
            walk = naive.drawn_walk(rng, plan, 9)
            points = naive.points(plan, walk)

            def rows(lot):
                told = []
                for k in lot:
                    if k - 1 in lot:
                        told[-1][1] = k
                    else:
                        told.append([k, k])
                return tuple(sorted(naive.string(plan, (points[i], walk[1][i:j])) for i, j in told))
            for lot in closed(walk[1]):
                rest = [k for k in range(len(points)) if k not in lot]
                self.assertEqual(layers.set_strings(plan, walk, lot), (rows(lot), rows(rest)))

    def test_set_strings_are_rooms(self):
        from stringrooms.apart import strings_in
        rng = random.Random(155)
        for plan in naive.plans_for(155, 30, 4):
            walk = naive.drawn_walk(rng, plan, 7)
            room, points = walk_room(plan, walk), naive.points(plan, walk)
            for lot in closed(walk[1]):
                told = tuple(tuple(tuple(int(j == points[:k].count(p)) for j in range(room[0][p]))
                                   for k in lot if points[k] == p) for p in range(plan[0]))
                found = (rooms.sub_room(plan, 3, room, told), rooms.left_room(plan, 3, room, told))
                lists = tuple(tuple(w for w, many in strings_in(plan, 3, one) for _ in range(many)) for one in found)
                self.assertEqual(layers.set_strings(plan, walk, lot), lists)

    def test_what_is_no_closed_set(self):
        walk = (0, (0, -2, 0))
        good = closed(walk[1])
        for bad in naive.ODD_VALUES + ((0,), (2,), (0, 1, 2), (1, 0), (1, 1), (3, 1), (1, 4), (-1, 1), (True,),
                                       (1, True), [1], [], "1", (1, None), (1.0,), (1, "3"), ((1,),), {1: 1}, (2, 3)):
            if isinstance(bad, tuple) and bad in good and all(type(k) is int for k in bad):
                continue
            self.assertEqual(raised(layers.set_strings, DOUBLE, walk, bad), ("NotPaper", "places"), bad)
        self.assertIn((1, 3), good)


class Levels(unittest.TestCase):
    def test_by_hand(self):
        self.assertEqual(layers.depths(LINE, (0, (0, 1))), (0, 1, 2))
        self.assertEqual(layers.heights(LINE, (0, (0, 1))), (2, 1, 0))
        self.assertEqual(layers.layers(LINE, (0, (0, 1))), ((1, 0, 0), (0, 1, 0), (0, 0, 1)))
        self.assertEqual(layers.feet(LINE, (0, (0, 1))), ((0, 0, 1), (0, 1, 0), (1, 0, 0)))
        self.assertEqual(layers.layers(POINT, (0, ())), ((1,),))
        self.assertEqual(layers.layer_number(POINT, (0, ())), 1)
        self.assertEqual(layers.depths(DOUBLE, (1, (-1, 1, -1))), (1, 0, 1, 0))
        self.assertEqual(layers.heights(DOUBLE, (1, (-1, 1, -1))), (0, 1, 0, 1))

    def test_drawn(self):
        rng = random.Random(156)
        deep = 0
        for plan in naive.plans_for(156, 100) + [naive.FULL] * 10:
            walk = naive.drawn_walk(rng, plan, 16)
            points, arrows = naive.points(plan, walk), leading(walk[1])

            def longest(k, pairs):
                return max([1 + longest(a, pairs) for a, b in pairs if b == k], default=0)
            depths = tuple(longest(k, arrows) for k in range(len(points)))
            heights = tuple(longest(k, [(b, a) for a, b in arrows]) for k in range(len(points)))
            self.assertEqual(layers.depths(plan, walk), depths)
            self.assertEqual(layers.heights(plan, walk), heights)
            for levels, told in ((depths, layers.layers(plan, walk)), (heights, layers.feet(plan, walk))):
                self.assertEqual(told, tuple(tuple(sum(points[k] == p and levels[k] == n for k in range(len(points)))
                                                   for p in range(plan[0])) for n in range(max(levels) + 1)))
            self.assertEqual(layers.layer_number(plan, walk), len(layers.layers(plan, walk)))
            self.assertEqual(len(layers.feet(plan, walk)), len(layers.layers(plan, walk)))
            deep = max(deep, len(layers.feet(plan, walk)))
            # Units to which some way of N arrows leads have depth N and more.
            room = walk_room(plan, walk)
            told = tuple(naive_rooms.eye(n) for n in room[0])
            for n in range(max(depths) + 2):
                self.assertEqual(tuple(rank(2, rows) for rows in told),
                                 tuple(sum(points[k] == p and depths[k] >= n for k in range(len(points)))
                                       for p in range(plan[0])))
                told = tuple(tuple(row for a, (s, q) in enumerate(plan[1]) if q == p
                                   for row in mul(2, told[s], room[1][a], room[0][p])) for p in range(plan[0]))
        self.assertGreater(deep, 4)

    def test_heights_and_ways(self):
        # Units of height below N are those that each way of N arrows leads to nothing.
        rng = random.Random(158)
        for plan in naive.plans_for(158, 60):
            walk = naive.drawn_walk(rng, plan, 12)
            points, heights = naive.points(plan, walk), layers.heights(plan, walk)
            room = walk_room(plan, walk)
            ways = [(p, ()) for p in range(plan[0])]
            for n in range(max(heights) + 2):
                for p in range(plan[0]):
                    rows = [()] * room[0][p]
                    for start, row in ways:
                        if start == p:
                            table = rooms.way_table(plan, 2, room, p, row)
                            rows = [one + other for one, other in zip(rows, table)]
                    self.assertEqual(room[0][p] - rank(2, rows),
                                     sum(q == p and height < n for q, height in zip(points, heights)))
                ways = [(p, row + (a,)) for p, row in ways for a in range(len(plan[1]))
                        if (naive.follows(plan, row[-1], a) if row else plan[1][a][0] == p)]


class WayRank(unittest.TestCase):
    def test_by_hand(self):
        walk = (0, (0, -2, 0))
        self.assertEqual(layers.way_rank(DOUBLE, walk, 0, ()), 2)
        self.assertEqual(layers.way_rank(DOUBLE, walk, 0, (0,)), 2)
        self.assertEqual(layers.way_rank(DOUBLE, walk, 0, (1,)), 1)
        self.assertEqual(layers.way_rank(DOUBLE, walk, 1, ()), 2)
        self.assertEqual(layers.way_rank(LINE, (2, (-2, -1)), 0, (0, 1)), 1)
        self.assertEqual(layers.way_rank(LINE, (2, ()), 0, ()), 0)

    def test_no_ways(self):
        walk = (0, (0, -2, 0))
        for point, arrows in ((1, (0,)), (0, (0, 0)), (0, (-1,)), (0, (2,)), (1, (-1,)), (0, (0, 1))):
            self.assertEqual(raised(layers.way_rank, DOUBLE, walk, point, arrows), ("NoWay",))
        self.assertEqual(raised(layers.way_rank, naive.LINE_NOUGHT, (0, (0,)), 0, (0, 1)), ("NoWay",))
        self.assertEqual(raised(layers.way_rank, LOOP, (0, (0,)), 0, (0, 0)), ("NoWay",))
        self.assertEqual(raised(layers.way_rank, CHAINED, (0, ()), 0, (1, 2)), ("NoWay",))

    def test_as_the_tables_tell(self):
        rng = random.Random(157)
        for plan in naive.plans_for(157, 80) + [naive.FULL] * 5:
            walk = naive.drawn_walk(rng, plan, 16)
            room = walk_room(plan, walk)
            rows = [(a,) for a in range(len(plan[1]))]
            for point in range(plan[0]):
                self.assertEqual(layers.way_rank(plan, walk, point, ()), room[0][point])
            for row in rows:
                for n in range(1, len(row) + 1):
                    start = plan[1][row[0]][0]
                    told = layers.way_rank(plan, walk, start, row[:n])
                    table = rooms.way_table(plan, 2, room, start, row[:n])
                    self.assertEqual(told, rank(2, table))
                    about = tuple(-1 - a for a in reversed(row[:n]))
                    self.assertEqual(told, sum(walk[1][k:k + n] in (row[:n], about) for k in range(len(walk[1]) - n + 1)))
                rows.extend(row + (b,) for b in range(len(plan[1])) if naive.follows(plan, row[-1], b))


if __name__ == "__main__":
    unittest.main()
