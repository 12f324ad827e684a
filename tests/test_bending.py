"""[57], [58] Bends of strings, and the rooms in the middle of bent sums."""

import random
import unittest

from stringrooms import bending
from stringrooms.apart import parts_of_room
from stringrooms.bentrooms import bent_basis, bent_room
from stringrooms.layers import hull_of
from stringrooms.rests import cover_of
from stringrooms.rooms import string_room
from stringrooms.walks import check_walk, sizes_of, turned
from tests import naive, naive_bends
from tests.naive import CHAINED, DOUBLE, FORK, LINE, LINE_NOUGHT, LOOP, POINT, TAILED


def readings(plan, walk):
    return [walk, naive.about(plan, walk)] if walk[1] else [walk]


def is_walk(plan, walk):
    row = walk[1]
    return (not row or naive.ends(plan, row[0])[0] == walk[0]) and all(
        naive.follows(plan, row[k], row[k + 1]) for k in range(len(row) - 1))


def naive_arrow_sums(plan, upper, lower):
    found = []
    for one in readings(plan, upper):
        for other in readings(plan, lower):
            for a in range(len(plan[1])):
                ends = plan[1][a]
                told = (one[0], one[1] + (a,) + other[1])
                if ends == (naive.points(plan, one)[-1], other[0]) and is_walk(plan, told):
                    found.append(naive.string(plan, told))
    return tuple(sorted(found))


def naive_crossing_sums(plan, upper, lower):
    """Pieces of both that read alike, tried out one by one; a piece of one place counts once for each pair of places."""
    found = {}
    points, n = naive.points(plan, upper), len(upper[1])
    for turn, other in enumerate(readings(plan, lower)):
        m, lying = len(other[1]), naive.points(plan, other)
        for k in range(n + 1):
            for i in range(m + 1):
                for steps in range(min(n - k, m - i) + 1):
                    if points[k] != lying[i] or upper[1][k:k + steps] != other[1][i:i + steps]:
                        continue
                    big, small = (upper[1][:k], upper[1][k + steps:]), (other[1][:i], other[1][i + steps:])
                    taken_in = (not big[0] or big[0][-1] >= 0) and (not big[1] or big[1][0] < 0)
                    let_go = (not small[0] or small[0][-1] < 0) and (not small[1] or small[1][0] >= 0)
                    if not (taken_in and let_go and (big[0] or small[0]) and (big[1] or small[1])):
                        continue
                    piece = upper[1][k:k + steps]
                    rows = ((upper[0], big[0] + piece + small[1]), (other[0], small[0] + piece + big[1]))
                    if all(is_walk(plan, row) for row in rows):
                        told = tuple(sorted(naive.string(plan, row) for row in rows))
                        place = i if turn == 0 else m - i - steps
                        found.setdefault((k, place, steps) if steps == 0 else (k, place, steps, turn), told)
    return tuple(sorted(found.values()))


def sample(seed, many, most=5, letters=7, each=6):
    rng = random.Random(seed)
    for plan in naive.plans_for(seed, many, most) + [DOUBLE, TAILED, CHAINED] * 3:
        for _ in range(each):
            yield plan, naive.drawn_walk(rng, plan, letters), naive.drawn_walk(rng, plan, letters)


class Bends(unittest.TestCase):
    def test_by_hand(self):
        self.assertEqual(bending.bends(LINE, (0, ()), (1, ())), 1)
        self.assertEqual(bending.bends(LINE, (1, ()), (0, ())), 0)
        self.assertEqual(bending.bends(LINE, (0, ()), (2, ())), 0)
        self.assertEqual(bending.bends(LINE_NOUGHT, (0, ()), (1, ())), 1)
        self.assertEqual(bending.bends(DOUBLE, (0, ()), (1, ())), 2)
        self.assertEqual(bending.bends(LOOP, (0, ()), (0, ())), 1)
        self.assertEqual(bending.bends(POINT, (0, ()), (0, ())), 0)
        self.assertIs(bending.has_bent(DOUBLE, (0, ()), (1, ())), True)
        self.assertIs(bending.has_bent(DOUBLE, (1, ()), (0, ())), False)

    def test_by_unknowns_and_equations(self):
        met = {}
        for plan, upper, lower in sample(210, 120):
            told = bending.bends(plan, upper, lower)
            for prime in naive.PRIMES[:2] if told else (5, 7):
                rooms = string_room(plan, upper), string_room(plan, lower)
                self.assertEqual(told, naive_bends.bend_number(plan, prime, *rooms), (plan, upper, lower))
            self.assertIs(bending.has_bent(plan, upper, lower), told > 0)
            self.assertEqual(bending.bends(plan, turned(plan, upper), turned(plan, lower)), told)
            met[min(told, 3)] = met.get(min(told, 3), 0) + 1
        self.assertEqual(set(met), {0, 1, 2, 3})

    def test_covers_above_and_hulls_inside(self):
        rng = random.Random(211)
        for plan in naive.plans_for(211, 80) + [naive.FULL]:
            walk = naive.drawn_walk(rng, plan, 30)
            for p in range(plan[0]):
                self.assertEqual(bending.bends(plan, cover_of(plan, p), walk), 0)
                self.assertEqual(bending.bends(plan, walk, hull_of(plan, p)), 0)


class Middles(unittest.TestCase):
    def test_by_hand(self):
        self.assertEqual(bending.arrow_sums(LINE, (0, ()), (1, ())), ((0, (0,)),))
        self.assertEqual(bending.arrow_sums(LINE, (0, ()), (1, (1,))), ((0, (0, 1)),))
        self.assertEqual(bending.arrow_sums(LINE_NOUGHT, (0, ()), (1, (1,))), ())
        self.assertEqual(bending.arrow_sums(DOUBLE, (0, ()), (1, ())), ((0, (0,)), (0, (1,))))
        self.assertEqual(bending.arrow_sums(LOOP, (0, ()), (0, ())), ((0, (-1,)),))
        self.assertEqual(bending.middle_rooms(LINE, (0, ()), (1, ())), (((0, (0,)),),))
        # The upper one is 0 to 1, the lower one 1 to 2: both have the place at 1.
        self.assertEqual(bending.crossing_sums(LINE, (0, (0,)), (1, (1,))), (((0, (0, 1)), (1, ())),))
        self.assertEqual(bending.middle_rooms(LINE, (0, (0,)), (1, (1,))), (((0, (0, 1)), (1, ())),))
        self.assertEqual(bending.crossing_sums(LINE_NOUGHT, (0, (0,)), (1, (1,))), ())
        # A piece of one place that counts read the other way only.
        self.assertEqual(bending.crossing_sums(LINE, (1, (-1,)), (1, (1,))), (((0, (0, 1)), (1, ())),))
        self.assertEqual(bending.crossing_sums(FORK, (1, ()), (1, ())), ())

    def test_drawn(self):
        met = {}
        for plan, upper, lower in sample(212, 150):
            arrows = bending.arrow_sums(plan, upper, lower)
            pairs = bending.crossing_sums(plan, upper, lower)
            self.assertEqual(arrows, naive_arrow_sums(plan, upper, lower))
            self.assertEqual(pairs, naive_crossing_sums(plan, upper, lower), (plan, upper, lower))
            told = bending.middle_rooms(plan, upper, lower)
            self.assertEqual(told, tuple((one,) for one in arrows) + pairs)
            self.assertEqual(len(told), bending.bends(plan, upper, lower))
            self.assertEqual(bending.middle_rooms(plan, turned(plan, upper), lower), told)
            self.assertEqual(bending.middle_rooms(plan, upper, turned(plan, lower)), told)
            units = [a + b for a, b in zip(sizes_of(plan, upper), sizes_of(plan, lower))]
            for room in told:
                self.assertEqual([sum(column) for column in zip(*[sizes_of(plan, one) for one in room])], units)
                for one in room:
                    self.assertEqual(check_walk(plan, one), naive.string(plan, one))
            met["arrows"] = met.get("arrows", 0) + len(arrows)
            met["pairs"] = met.get("pairs", 0) + len(pairs)
            met["many"] = met.get("many", 0) + (len(told) > 1)
        self.assertTrue(min(met.values()) > 20, met)

    def test_long_walks(self):
        rng = random.Random(213)
        for plan in [DOUBLE, CHAINED, TAILED, naive.FULL] * 3:
            upper, lower = naive.drawn_walk(rng, plan, 60), naive.drawn_walk(rng, plan, 60)
            told = bending.bends(plan, upper, lower)
            self.assertEqual(len(bending.middle_rooms(plan, upper, lower)), told)

    def test_one_bend_makes_the_one_middle(self):
        met = 0
        for plan, upper, lower in sample(214, 120, letters=5):
            rooms = string_room(plan, upper), string_room(plan, lower)
            told = bending.middle_rooms(plan, upper, lower)
            if len(told) == 1:
                met += 1
                prime = naive.PRIMES[met % 4]
                bend, = bent_basis(plan, prime, *rooms)
                parts = parts_of_room(plan, prime, bent_room(plan, prime, *rooms, bend))
                self.assertEqual(parts[1], ())
                self.assertEqual(tuple(one for one, many in parts[0] for _ in range(many)), tuple(sorted(told[0])))
        self.assertGreater(met, 60)


if __name__ == "__main__":
    unittest.main()
