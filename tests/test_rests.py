"""[9], [81], [82] Covers, tails and rests."""

import random
import unittest

from stringrooms import rests
from stringrooms.apart import parts_of_room
from stringrooms.homs import is_map, map_kernel
from stringrooms.layers import hull_of
from stringrooms.plans import turned_plan
from stringrooms.rooms import part_room, string_room, sub_room
from stringrooms.pieces import map_number
from stringrooms.walks import in_turned_plan, sizes_of, turned
from tests import naive, naive_bends, naive_rooms
from tests.naive import CHAINED, DOUBLE, FORK, LINE, LINE_NOUGHT, LOOP, POINT, RING, TAILED


class Covers(unittest.TestCase):
    def test_by_hand(self):
        self.assertEqual(rests.cover_of(POINT, 0), (0, ()))
        self.assertEqual([rests.cover_of(LINE, p) for p in range(3)], [(0, (0, 1)), (1, (1,)), (2, ())])
        self.assertEqual([rests.cover_of(LINE_NOUGHT, p) for p in range(3)], [(0, (0,)), (1, (1,)), (2, ())])
        self.assertEqual(rests.cover_of(DOUBLE, 0), (1, (-2, 0)))
        self.assertEqual(rests.cover_of(LOOP, 0), (0, (-1,)))
        self.assertEqual(rests.tail_of(LOOP, 0), (0, ()))
        self.assertEqual(rests.tail_of(LINE, 0), (1, (1,)))
        self.assertEqual(rests.tail_of(LINE, 1), (2, ()))
        self.assertEqual(rests.tail_of(LINE_NOUGHT, 0), (1, ()))
        # A tail is a string: the lesser one of the way and it turned about.
        back = (3, ((2, 1), (1, 0)), ())
        self.assertEqual(rests.tail_of(back, 0), (0, (-2,)))
        self.assertEqual(rests.cover_of(back, 2), (0, (-2, -1)))

    def test_drawn(self):
        for plan in naive.plans_for(200, 150) + [naive.FULL]:
            about = turned_plan(plan)
            for p in range(plan[0]):
                told = rests.cover_of(plan, p)
                self.assertEqual(told, naive_bends.cover(plan, p))
                self.assertEqual(told, naive.string(plan, in_turned_plan(about, hull_of(about, p))))
            for a in range(len(plan[1])):
                row, here = (), a
                while here is not None:
                    here = next((b for b in range(len(plan[1])) if naive.follows(plan, here, b)), None)
                    row += () if here is None else (here,)
                self.assertEqual(rests.tail_of(plan, a), naive.string(plan, (plan[1][a][1], row)))

    def test_maps_from_covers(self):
        rng = random.Random(201)
        for plan in naive.plans_for(201, 60):
            walk = naive.drawn_walk(rng, plan, 9)
            for p in range(plan[0]):
                self.assertEqual(map_number(plan, rests.cover_of(plan, p), walk), sizes_of(plan, walk)[p])


class Rests(unittest.TestCase):
    def test_by_hand(self):
        self.assertEqual(rests.rest_parts(POINT, (0, ())), ((), ()))
        self.assertEqual(rests.rest_of(POINT, (0, ())), ())
        self.assertEqual(rests.rest_parts(LINE, (0, ())), ((), (0,)))
        self.assertEqual(rests.rest_of(LINE, (0, ())), ((1, (1,)),))
        self.assertEqual(rests.rest_parts(LINE, (0, (0,))), ((), (1,)))
        self.assertEqual(rests.rest_parts(LINE, (1, (-1,))), ((), (1,)))
        self.assertEqual(rests.rest_of(LINE, (0, (0,))), ((2, ()),))
        self.assertEqual(rests.rest_of(LINE, (0, (0, 1))), ())
        # A string of one place has a tail for each arrow that begins there.
        self.assertEqual(rests.rest_parts(DOUBLE, (0, ())), ((), (0, 1)))
        self.assertEqual(rests.rest_of(DOUBLE, (0, ())), ((1, ()), (1, ())))
        self.assertEqual(rests.rest_parts(DOUBLE, (0, (0,))), ((), (1,)))
        self.assertEqual(rests.rest_parts(DOUBLE, (0, (0, -2))), ((1,), (0, 1)))
        self.assertEqual(rests.rest_of(DOUBLE, (0, (0, -2, 0, -2))), ((1, ()),) * 4)
        self.assertEqual(rests.rest_parts(FORK, (0, (0, -2))), ((1,), ()))
        self.assertEqual(rests.rest_of(LOOP, (0, ())), ((0, ()),))
        self.assertEqual(rests.round_rest(DOUBLE, (0, -2)), (1,))
        self.assertEqual(rests.round_rest(DOUBLE, (-2, 0)), (1,))

    def test_what_the_cover_leads_to_nothing(self):
        rng = random.Random(202)
        met = 0
        for plan in naive.plans_for(202, 120, 5) + [TAILED, CHAINED] * 5:
            for walk in [naive.drawn_walk(rng, plan, 7) for _ in range(4)]:
                prime = rng.choice(naive.PRIMES)
                goal = string_room(plan, walk)
                covers, told = naive_bends.cover_map(plan, walk)
                self.assertTrue(naive_rooms.is_hom(plan, prime, covers, goal, told))
                self.assertTrue(is_map(plan, prime, covers, goal, told))
                rest = sub_room(plan, prime, covers, map_kernel(plan, prime, covers, goal, told))
                strings = rests.rest_of(plan, walk)
                units = [sum(column) for column in zip((0,) * plan[0], *[sizes_of(plan, s) for s in strings])]
                self.assertEqual(list(rest[0]), units)
                if sum(rest[0]) <= 16:
                    met += 1
                    found, bands = parts_of_room(plan, prime, rest)
                    self.assertEqual(bands, ())
                    self.assertEqual(tuple(s for s, many in found for _ in range(many)), strings)
        self.assertGreater(met, 300)

    def test_turned_about(self):
        rng = random.Random(203)
        for plan in naive.plans_for(203, 80) + [naive.FULL]:
            for _ in range(5):
                walk = naive.drawn_walk(rng, plan, 9)
                points, arrows = rests.rest_parts(plan, walk)
                self.assertEqual((list(points), list(arrows)), (sorted(points), sorted(arrows)))
                self.assertLessEqual(len(arrows), 2)
                told = sorted([naive_bends.cover(plan, p) for p in points] + [rests.tail_of(plan, a) for a in arrows])
                self.assertEqual(rests.rest_of(plan, walk), tuple(told))
                self.assertEqual(rests.rest_parts(plan, turned(plan, walk)), (points, arrows))

    def test_rest_of_tails(self):
        for plan in naive.plans_for(204, 80) + [RING, naive.FULL]:
            for a in range(len(plan[1])):
                nil = [b for b in range(len(plan[1])) if (a, b) in plan[2]]
                self.assertEqual(rests.rest_of(plan, rests.tail_of(plan, a)), tuple(rests.tail_of(plan, b) for b in nil))
            for p in range(plan[0]):
                self.assertEqual(rests.rest_of(plan, rests.cover_of(plan, p)), ())

    def test_rounds(self):
        rng = random.Random(205)
        met = 0
        for plan in naive.plans_for(205, 150, 5) + [DOUBLE, TAILED, CHAINED] * 5:
            row = naive.drawn_round(rng, plan, 8)
            if row:
                met += 1
                points = [naive.ends(plan, x)[0] for x in row]
                low = [k for k in range(len(row)) if row[k - 1] >= 0 and row[k] < 0]
                self.assertEqual(rests.round_rest(plan, row), tuple(sorted(points[k] for k in low)))
                tops = [points[k] for k in range(len(row)) if row[k - 1] < 0 <= row[k]]
                # Units of the covers of the tops are those of the round and of its rest.
                for p in range(plan[0]):
                    def there(some):
                        return sum(sizes_of(plan, rests.cover_of(plan, q))[p] for q in some)
                    self.assertEqual(there(tops) - there(rests.round_rest(plan, row)), points.count(p))
                self.assertEqual(part_room(plan, 5, ("band", row, (1,)))[0], tuple(map(points.count, range(plan[0]))))
        self.assertGreater(met, 40)


if __name__ == "__main__":
    unittest.main()
