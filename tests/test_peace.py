"""[63], [64] Signs of walks, and which of them are at peace."""

import random
import unittest

from stringrooms import peace
from stringrooms.bending import bends
from stringrooms.fields import poly_power, irreducibles
from stringrooms.homs import map_size
from stringrooms.layers import let_go_strings
from stringrooms.pieces import map_number
from stringrooms.rests import cover_of, tail_of
from stringrooms.rooms import part_room, string_room
from stringrooms.translating import back
from stringrooms.walks import sizes_of, strings_upto, turned
from tests import naive, naive_bends, naive_rooms
from tests.naive import CHAINED, DOUBLE, LINE, LINE_NOUGHT, LOOP, POINT, TAILED, raised


def naive_sign(plan, walk):
    points, row = naive.points(plan, walk), walk[1]
    told = [0] * plan[0]
    for k in naive_bends.tops(walk):
        told[points[k]] += 1
    for k in naive_bends.tops((walk[0], tuple(-1 - x for x in row))):
        told[points[k]] -= 0 < k < len(row)
    for a, (start, end) in enumerate(plan[1]):
        for k in {0, len(row)}:
            if points[k] == start:
                beside = ([row[k]] if k < len(row) else []) + ([-1 - row[k - 1]] if k > 0 else [])
                # A letter to the end place as one reads outward: along it goes on with A, against A is the other one.
                outward = [-1 - x for x in beside]
                told[end] -= not outward or (outward[0] >= 0 and naive.follows(plan, outward[0], a)) or (
                    outward[0] < 0 and a != -1 - outward[0])
    return tuple(told)


class Signs(unittest.TestCase):
    def test_by_hand(self):
        self.assertEqual(peace.sign_of(POINT, (0, ())), (1,))
        self.assertEqual(peace.sign_of(LINE, (0, ())), (1, -1, 0))
        self.assertEqual(peace.sign_of(LINE, (0, (0, 1))), (1, 0, 0))
        self.assertEqual(peace.sign_of(LINE_NOUGHT, (0, ())), (1, -1, 0))
        self.assertEqual(peace.sign_of(DOUBLE, (0, ())), (1, -2))
        self.assertEqual(peace.sign_of(DOUBLE, (0, (0, -2, 0, -2))), (3, -4))
        self.assertEqual(peace.sign_of(LOOP, (0, ())), (0,))

    def test_drawn(self):
        rng = random.Random(260)
        for plan in naive.plans_for(260, 100) + [naive.FULL] * 3:
            for walk in [naive.drawn_walk(rng, plan, 9) for _ in range(6)]:
                told = peace.sign_of(plan, walk)
                self.assertEqual(told, naive_sign(plan, walk), (plan, walk))
                self.assertEqual(peace.sign_of(plan, turned(plan, walk)), told)
            for p in range(plan[0]):
                sign = tuple(int(p == q) for q in range(plan[0]))
                self.assertEqual(peace.sign_of(plan, cover_of(plan, p)), sign)

    def test_fact_for_walks_and_bands(self):
        rng = random.Random(261)
        met = {"string": 0, "band": 0}
        for plan in naive.plans_for(261, 100, 5) + [DOUBLE, TAILED, CHAINED] * 8:
            prime = rng.choice(naive.PRIMES)
            walk = naive.drawn_walk(rng, plan, 6)
            sign = peace.sign_of(plan, walk)
            before = back(plan, walk)
            for part in naive_rooms.drawn_parts(rng, plan, prime, 30, 5):
                room = part_room(plan, prime, part)
                goal = string_room(plan, walk)
                stops = peace.part_stops(plan, prime, part, walk)
                if part[0] == "string":
                    self.assertEqual(peace.stops(plan, part[1], walk), stops)
                    self.assertEqual(peace.stops(plan, turned(plan, part[1]), turned(plan, walk)), stops)
                if sum(a * b for a, b in zip(room[0], goal[0])) <= 60:
                    met[part[0]] += 1
                    maps = naive_rooms.hom_number(plan, prime, goal, room)
                    self.assertEqual(maps - stops, sum(a * b for a, b in zip(sign, room[0])))
                if before is None:
                    self.assertEqual(stops, 0)
                elif len(before[1]) < 12 and sum(room[0]) <= 12:
                    self.assertEqual(stops, map_size(plan, prime, room, string_room(plan, before)))
        self.assertTrue(min(met.values()) > 20, met)

    def test_covers_stop_nothing(self):
        rng = random.Random(262)
        for plan in naive.plans_for(262, 60):
            walk = naive.drawn_walk(rng, plan, 9)
            for p in range(plan[0]):
                self.assertEqual(peace.stops(plan, walk, cover_of(plan, p)), 0)
                self.assertIs(peace.is_peaceful(plan, cover_of(plan, p)), True)
        self.assertEqual(peace.part_stops(DOUBLE, 3, ("band", (-2, 0), (1,)), (0, (0, -2, 0))), 0)
        self.assertEqual(peace.part_stops(DOUBLE, 3, ("band", (-2, 0), (1,)), (0, (0,))),
                         map_size(DOUBLE, 3, part_room(DOUBLE, 3, ("band", (-2, 0), (1,))), string_room(DOUBLE, (0, (0,)))))
        six = poly_power(3, irreducibles(3, 2)[0], 3)
        self.assertEqual(peace.part_stops(DOUBLE, 3, ("band", (-2, 0), six), (0, ())), 6)
        self.assertEqual(peace.part_stops(DOUBLE, 3, ("band", (-2, 0), six), (1, ())), 0)


class Peace(unittest.TestCase):
    def test_by_hand(self):
        self.assertIs(peace.is_peaceful(POINT, (0, ())), True)
        self.assertIs(peace.is_peaceful(LOOP, (0, ())), False)
        self.assertIs(peace.is_peaceful(DOUBLE, (0, (0,))), False)
        self.assertIs(peace.are_peaceful(LINE, (0, ()), (1, ())), False)
        self.assertIs(peace.are_peaceful(LINE, (0, ()), (2, ())), True)
        self.assertEqual(peace.peaceful(LOOP, 60), ((0, (-1,)),))
        self.assertEqual(peace.peaceful(DOUBLE, 2), ((0, ()), (0, (0, -2)), (1, ()), (1, (-2, 0))))
        self.assertEqual(peace.signed(DOUBLE, (2, -3), 2), (0, (0, -2)))
        self.assertIsNone(peace.signed(DOUBLE, (2, -3), 1))
        self.assertIsNone(peace.signed(DOUBLE, (1, -1), 60))
        self.assertEqual(peace.signed(LINE, (1, -1, 0), 0), (0, ()))

    def test_drawn(self):
        rng = random.Random(263)
        met = {}
        for plan in naive.plans_for(263, 100, 5):
            for _ in range(6):
                one, other = naive.drawn_walk(rng, plan, 6), naive.drawn_walk(rng, plan, 6)
                bent = [any(bends(plan, b, x) for x in let_go_strings(plan, a))
                        for a, b in ((one, one), (one, other), (other, one))]
                self.assertIs(peace.is_peaceful(plan, one), not bent[0])
                self.assertIs(peace.are_peaceful(plan, one, other), not (bent[1] or bent[2]))
                self.assertEqual(peace.stops(plan, one, other) == 0, not bent[1])
                self.assertIs(peace.are_peaceful(plan, other, turned(plan, one)), not (bent[1] or bent[2]))
                kind = tuple(bent)
                met[kind] = met.get(kind, 0) + 1
        self.assertEqual(len(met), 8, met)

    def test_lists(self):
        rng = random.Random(264)
        for plan in naive.plans_for(264, 60, 5):
            for length in (0, 1, 5):
                told = peace.peaceful(plan, length)
                strings = strings_upto(plan, length)
                self.assertEqual(told, tuple(s for s in strings if back(plan, s) is None
                                             or map_number(plan, s, back(plan, s)) == 0))
                signs = [peace.sign_of(plan, s) for s in told]
                self.assertEqual(len(set(signs)), len(signs))
                for s, sign in zip(told, signs):
                    self.assertEqual(peace.signed(plan, sign, length), s)
                    self.assertIsNone(peace.signed(plan, tuple(10 * x for x in sign), length))
                for s in strings:
                    if s not in told:
                        self.assertNotEqual(peace.signed(plan, peace.sign_of(plan, s), length), s)
                for _ in range(20):
                    if told:
                        i, j = rng.randrange(len(told)), rng.randrange(len(told))
                        if peace.are_peaceful(plan, told[i], told[j]):
                            self.assertTrue(all(a * b >= 0 for a, b in zip(signs[i], signs[j])))

    def test_2000_strings_and_more(self):
        for plan, length in ((naive.FULL, 60), (CHAINED, 60), (naive.GREAT, 60)):
            great = raised(strings_upto, plan, length)[0] == "TooGreat"
            for call in (lambda: peace.peaceful(plan, length), lambda: peace.signed(plan, (0,) * plan[0], length)):
                told = raised(call)
                self.assertEqual(told == ("TooGreat", 2000), great)
        self.assertEqual(raised(peace.peaceful, naive.GREAT, 60), ("TooGreat", 2000))
        self.assertEqual(raised(peace.signed, naive.GREAT, (9,) * 8, 60), ("TooGreat", 2000))
        self.assertGreater(len(peace.peaceful(naive.WIDE, 60)), 12)

    def test_units_and_tails(self):
        # Of the sign each tail takes one off where its arrow ends, not where it begins.
        for plan in naive.plans_for(265, 60):
            for p in range(plan[0]):
                arrows = [a for a, ends in enumerate(plan[1]) if ends[0] == p]
                told = [int(p == q) - sum(plan[1][a][1] == q for a in arrows) for q in range(plan[0])]
                self.assertEqual(peace.sign_of(plan, (p, ())), tuple(told))
                self.assertEqual(sum(sizes_of(plan, (p, ()))), 1)
                for a in arrows:
                    self.assertEqual(tail_of(plan, a), naive.string(plan, tail_of(plan, a)))


if __name__ == "__main__":
    unittest.main()
