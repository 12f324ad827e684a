"""[103], [104], [105] Plans glued, cornered and doubled."""

import random
import unittest

from stringrooms import glue
from stringrooms.apart import alike, number_along
from stringrooms.plans import check_plan
from stringrooms.rooms import check_room, string_room
from stringrooms.walks import check_walk, string_of
from tests import naive, naive_rooms
from tests.naive import CHAINED, DOUBLE, FORK, LINE, LINE_NOUGHT, LOOP, POINT, RING, TAILED, TWELVE, raised
from tests.naive_bends import ways_from

ARROW = (2, ((0, 1),), ())


def same_strings(plan, other, many):
    """Whether there are as many strings and bands of each length, but that two of one place are made one."""
    for n in range(many):
        if len(naive.strings(plan, n)) - int(n == 0) != len(naive.strings(other, n)):
            return False
        if {naive.band(r) for r in naive.rounds(plan, n)} != {naive.band(r) for r in naive.rounds(other, n)}:
            return False
    return True


class Glued(unittest.TestCase):
    def test_by_hand(self):
        self.assertEqual(glue.glued(TWELVE, 0, 11), (11, (), ()))
        self.assertEqual(glue.glued((2, (), ()), 0, 1), POINT)
        self.assertEqual(glue.glued(ARROW, 0, 1), LOOP)
        self.assertEqual(raised(glue.joined_at, ARROW, 0, 1), ("NotPlan", "ends", 0))
        self.assertEqual(glue.glued(LINE, 0, 2), (2, ((0, 1), (1, 0)), ((1, 0),)))
        self.assertEqual(raised(glue.joined_at, LINE, 0, 2), ("NotPlan", "ends", 0))
        self.assertEqual(glue.joined_at(LINE_NOUGHT, 0, 2), (2, ((0, 1), (1, 0)), ((0, 1),)))
        self.assertEqual(glue.glued(LINE, 0, 1), (2, ((0, 0), (0, 1)), ((0, 0),)))
        # Two arrows one behind the other, laid together at the middle; points above the other one are one less.
        two = (4, ((0, 1), (2, 3)), ())
        self.assertEqual(glue.glued(two, 1, 2), LINE_NOUGHT)
        self.assertEqual(glue.joined_at(two, 1, 2), LINE)
        self.assertEqual(glue.glued(two, 0, 2), (3, ((0, 1), (0, 2)), ()))
        self.assertEqual(glue.glued(two, 1, 3), FORK)
        self.assertEqual(glue.glued(two, 0, 3), (3, ((0, 1), (2, 0)), ((1, 0),)))
        # A nought that is put in among those that there were, and both ways at once.
        self.assertEqual(glue.glued((5, ((2, 3), (0, 1), (3, 4)), ((0, 2),)), 1, 2),
                         (4, ((1, 2), (0, 1), (2, 3)), ((0, 2), (1, 0))))
        ends, noughts = ((0, 1), (1, 2), (3, 1), (1, 4)), ((0, 3), (2, 1))
        self.assertEqual(glue.glued((6, ((0, 1), (1, 2), (3, 4), (4, 5)), ()), 1, 4), (5, ends, noughts))
        self.assertEqual(glue.joined_at((6, ((0, 1), (1, 2), (3, 4), (4, 5)), ((0, 1), (2, 3))), 1, 4),
                         (5, ends, ((0, 1), (2, 3))))

    def test_no_plan(self):
        self.assertEqual(raised(glue.glued, (4, ((0, 1), (2, 1), (0, 3)), ()), 1, 3), ("NotPlan", "two", 1))
        self.assertEqual(raised(glue.glued, DOUBLE, 0, 1), ("NotPlan", "one", 0))
        self.assertEqual(raised(glue.joined_at, DOUBLE, 0, 1), ("NotPlan", "one", 0))
        # A fork, and a point from which one arrow leads: two pairs that meet, both noughts or both none.
        plan = (5, ((0, 1), (2, 1), (3, 4)), ())
        self.assertEqual(raised(glue.glued, plan, 1, 3), ("NotPlan", "one", 2))
        self.assertEqual(raised(glue.joined_at, plan, 1, 3), ("NotPlan", "one", 2))

    def test_drawn(self):
        met = {}
        for plan in naive.plans_for(500, 120, 5):
            for p in range(plan[0]):
                for q in range(p + 1, plan[0]):
                    points = [k - (k > q) if k != q else p for k in range(plan[0])]
                    ends = tuple((points[a], points[b]) for a, b in plan[1])
                    new = [(a, b) for a, (_, x) in enumerate(plan[1]) for b, (y, _) in enumerate(plan[1])
                           if {x, y} == {p, q}]
                    for call, noughts in ((glue.glued, plan[2] + tuple(new)), (glue.joined_at, plan[2])):
                        goal = (plan[0] - 1, ends, tuple(sorted(noughts)))
                        told = raised(call, plan, p, q)
                        self.assertEqual(told, raised(check_plan, goal))
                        met[told[:2] if told[0] == "NotPlan" else call] = True
                    told = raised(glue.glued, plan, p, q)
                    one, two = ({x for e in plan[1] for x in (e[side],)} for side in (0, 1))
                    if told[0] != "NotPlan" and ((p not in one and q not in two) or (q not in one and p not in two)):
                        self.assertTrue(same_strings(plan, told[1], 6), (plan, p, q))
                        met["fact"] = met.get("fact", 0) + 1
        self.assertGreaterEqual(len(met), 6, met)
        self.assertGreater(met["fact"], 100)


class Corners(unittest.TestCase):
    def test_by_hand(self):
        self.assertEqual(glue.corner_ways(LINE, (0, 2)), ((0, 1),))
        self.assertEqual(glue.corner_ways(LINE, (0, 1, 2)), ((0,), (1,)))
        self.assertEqual(glue.corner_ways(LINE, (1,)), ())
        self.assertEqual(glue.corner_ways(LINE_NOUGHT, (0, 2)), ())
        self.assertEqual(glue.corner_ways(TAILED, (0, 2, 3)), ((0, 2), (3,)))
        self.assertEqual(glue.corner(LINE, (0, 2)), ARROW)
        self.assertEqual(glue.corner(LINE, (0, 1, 2)), LINE)
        self.assertEqual(glue.corner(LINE_NOUGHT, (0, 2)), (2, (), ()))
        self.assertEqual(glue.corner(TWELVE, (3, 11)), (2, (), ()))
        self.assertEqual(glue.corner(TAILED, (0, 2, 3)), LINE_NOUGHT)
        self.assertEqual(glue.corner(RING, (0,)), (1, (), ()))
        # A round row of arrows with one nought becomes a loop that makes a nought with itself.
        turn = (3, ((0, 1), (1, 2), (2, 0)), ((2, 0),))
        self.assertEqual(glue.corner(turn, (0,)), LOOP)
        self.assertEqual(glue.corner_ways(turn, (1, 2)), ((1,),))
        room = ((1, 2, 1), (((1, 2),), ((1,), (2,))))
        self.assertEqual(glue.corner_room(LINE, 3, room, (0, 2)), ((1, 1), (((2,),),)))
        self.assertEqual(glue.corner_room(LINE, 3, room, (0, 1, 2)), room)
        self.assertEqual(glue.corner_room(LINE, 3, room, (1,)), ((2,), ()))
        # Through a point without units all is led to nothing.
        self.assertEqual(glue.corner_room(LINE, 3, ((1, 0, 2), (((),), ())), (0, 2)), ((1, 2), (((0, 0),),)))

    def test_drawn(self):
        rng = random.Random(501)
        longer = 0
        for plan in naive.plans_for(502, 150):
            for _ in range(3):
                kept = tuple(sorted(rng.sample(range(plan[0]), rng.randint(1, plan[0]))))
                ways = []
                for p in kept:
                    for row in ways_from(plan, p):
                        lying = [plan[1][a][1] for a in row]
                        if row and lying[-1] in kept and not any(q in kept for q in lying[:-1]):
                            ways.append(row)
                self.assertEqual(glue.corner_ways(plan, kept), tuple(sorted(ways)))
                longer += any(len(row) > 1 for row in ways)
                told = glue.corner(plan, kept)
                self.assertEqual(check_plan(told), told)
                self.assertEqual(told[1], tuple((kept.index(plan[1][r[0]][0]), kept.index(plan[1][r[-1]][1]))
                                                for r in sorted(ways)))
                rows = sorted(ways)
                self.assertEqual(told[2], tuple((i, j) for i, v in enumerate(rows) for j, w in enumerate(rows)
                                                if (v[-1], w[0]) in plan[2]))
                prime = rng.choice(naive.PRIMES)
                room = naive_rooms.drawn_room(rng, plan, prime)
                cut = glue.corner_room(plan, prime, room, kept)
                self.assertEqual(check_room(told, prime, cut), cut)
                self.assertEqual(cut[0], tuple(room[0][p] for p in kept))
                for row, table in zip(rows, cut[1]):
                    goal = naive_rooms.eye(room[0][plan[1][row[0]][0]])
                    for a in row:
                        goal = naive_rooms.mul(prime, goal, room[1][a], room[0][plan[1][a][1]])
                    self.assertEqual(table, goal)
        self.assertGreater(longer, 30)


class Doubled(unittest.TestCase):
    def test_by_hand(self):
        self.assertEqual(glue.doubled(POINT, ()), (2, (), ()))
        self.assertEqual(glue.doubled(ARROW, ()), (4, ((0, 1), (2, 3)), ()))
        self.assertEqual(glue.doubled(ARROW, (0,)), (4, ((0, 3), (2, 1)), ()))
        self.assertEqual(glue.doubled(LOOP, ()), (2, ((0, 0), (1, 1)), ((0, 0), (1, 1))))
        self.assertEqual(glue.doubled(LOOP, (0,)), (2, ((0, 1), (1, 0)), ((0, 1), (1, 0))))
        self.assertEqual(glue.doubled((6, (), ()), ()), TWELVE)
        self.assertEqual(raised(glue.doubled, (7, (), ()), ()), ("TooGreat", 12))
        self.assertEqual(raised(glue.doubled, TWELVE, ()), ("TooGreat", 12))
        self.assertEqual(glue.doubled(DOUBLE, (1,)), (4, ((0, 1), (2, 3), (0, 3), (2, 1)), ()))
        self.assertEqual(glue.lifted(DOUBLE, (1,), (0, (0, -2)), 0), (0, (0, -4)))
        self.assertEqual(glue.lifted(DOUBLE, (1,), (0, (0, -2)), 1), (2, (1, -3)))
        self.assertEqual(glue.laid_down(DOUBLE, (2, (1, -3))), (0, (0, -2)))
        self.assertEqual(glue.laid_down(DOUBLE, (3, ())), (1, ()))
        self.assertEqual(glue.lifted(POINT, (), (0, ()), 1), (1, ()))
        room = ((1, 0, 1, 2), (((),), ((1, 2),), ((3, 4),), ((),)))
        self.assertEqual(check_room(glue.doubled(DOUBLE, (1,)), 5, room), room)
        self.assertEqual(glue.laid_room(DOUBLE, (1,), 5, room), ((2, 2), (((0, 0), (1, 2)), ((3, 4), (0, 0)))))
        self.assertEqual(glue.laid_room(POINT, (), 5, ((1, 2), ())), ((3,), ()))

    def test_drawn(self):
        rng = random.Random(503)
        met = {0: 0, 1: 0}
        for plan in naive.plans_for(504, 120, 4):
            if plan[0] > 6:
                continue
            crossing = tuple(a for a in range(len(plan[1])) if rng.random() < 0.5)
            told = glue.doubled(plan, crossing)
            self.assertEqual(check_plan(told), told)
            n = plan[0]
            for a, (p, q) in enumerate(plan[1]):
                for sheet in (0, 1):
                    self.assertEqual(told[1][2 * a + sheet], (p + n * sheet, q + n * (sheet ^ (a in crossing))))
            for a, (_, p) in enumerate(told[1]):
                for b, (q, _) in enumerate(told[1]):
                    if p == q:
                        self.assertEqual((a, b) in told[2], (a // 2, b // 2) in plan[2])
            for length in range(5):
                self.assertEqual(len(naive.strings(told, length)), 2 * len(naive.strings(plan, length)))
            row = naive.drawn_round(rng, plan, 6)
            if row:
                odd = sum((x if x >= 0 else -1 - x) in crossing for x in row) % 2
                met[odd] += 1
                over = set()
                for sheet in (0, 1):
                    walk = (naive.ends(plan, row[0])[0], row * (1 + odd))
                    over.add(naive.band(glue.lifted(plan, crossing, walk, sheet)[1]))
                self.assertTrue(all(naive.is_round(told, r) for r in over))
                self.assertLessEqual(len(over), 2 - odd)
        self.assertGreater(min(met.values()), 4)

    def test_walks_and_rooms(self):
        rng = random.Random(505)
        for plan in naive.plans_for(506, 80, 5):
            if plan[0] > 6:
                continue
            crossing = tuple(a for a in range(len(plan[1])) if rng.random() < 0.5)
            told = glue.doubled(plan, crossing)
            for _ in range(3):
                walk, sheet = naive.drawn_walk(rng, plan, 7), rng.randrange(2)
                up = glue.lifted(plan, crossing, walk, sheet)
                self.assertEqual(check_walk(told, up), up)
                self.assertEqual(up[0], walk[0] + plan[0] * sheet)
                self.assertEqual(glue.laid_down(plan, up), walk)
                down = naive.drawn_walk(rng, told, 7)
                self.assertEqual(check_walk(plan, glue.laid_down(plan, down)), glue.laid_down(plan, down))
                self.assertEqual(glue.lifted(plan, crossing, glue.laid_down(plan, down), down[0] // plan[0]), down)
                prime = rng.choice(naive.PRIMES)
                room = glue.laid_room(plan, crossing, prime, string_room(told, up))
                self.assertEqual(check_room(plan, prime, room), room)
                self.assertTrue(alike(plan, prime, room, string_room(plan, walk)))
            room = naive_rooms.drawn_room(rng, told, 3, 2)
            laid = glue.laid_room(plan, crossing, 3, room)
            self.assertEqual(check_room(plan, 3, laid), laid)
            for a, (p, q) in enumerate(plan[1]):
                for sheet in (0, 1):
                    goal = sheet ^ (a in crossing)
                    for i in range(room[0][p + plan[0] * sheet]):
                        row = laid[1][a][i + sheet * room[0][p]]
                        low = goal * room[0][q]
                        high = low + room[0][q + plan[0] * goal]
                        self.assertEqual(row[low:high], room[1][2 * a + sheet][i])
                        self.assertFalse(any(row[:low] + row[high:]))
            walk = naive.drawn_walk(rng, plan, 2)
            many = sum(number_along(told, 3, room, string_of(told, glue.lifted(plan, crossing, walk, s))) for s in (0, 1))
            self.assertEqual(number_along(plan, 3, laid, walk), many)


if __name__ == "__main__":
    unittest.main()
