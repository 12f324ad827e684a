"""[41], [42], [43], [44] Maps between walks by pieces."""

import itertools
import random
import unittest

from stringrooms import homs, maps
from stringrooms.pieces import map_number, map_pairs
from stringrooms.rooms import string_room
from stringrooms.walks import strings_upto
from tests import naive, naive_rooms
from tests.naive import CHAINED, DOUBLE, LINE, LOOP, POINT, PRIMES, raised
from tests.naive_rooms import is_hom, mul, walk_room


def naive_map(plan, walk, other, pair):
    """The map of a pair, from its definition."""
    i, j, k, m, way = pair
    here, there = naive.points(plan, walk), naive.points(plan, other)
    tables = [[[0] * there.count(p) for _ in range(here.count(p))] for p in range(plan[0])]
    for t in range(j - i + 1):
        goal = k + t if way == 1 else m - t
        p = here[i + t]
        assert p == there[goal]
        tables[p][here[:i + t].count(p)][there[:goal].count(p)] = 1
    return tuple(tuple(map(tuple, table)) for table in tables)


def product(plan, prime, third, one, other):
    return tuple(mul(prime, one[p], other[p], third[0][p]) for p in range(plan[0]))


def drawn_walks(rng, plan, many, most=9):
    return [naive.drawn_walk(rng, plan, most) for _ in range(many)]


BAD_PAIRS = naive.ODD_VALUES + ((0, 0, 0, 0), (0, 0, 0, 0, 1, 0), [0, 0, 0, 0, 1], (0, 0, 0, 0, 0), (0, 0, 0, 0, -1),
                                (0, 0, 0, 0, True), (0, 0, 0, 0, 1.0), (0, 0, 0, None, 1), (0, 0, 5, 5, 1),
                                (-1, -1, 0, 0, 1), ("0", 0, 0, 0, 1), (0, 0, 0, (0,), 1), "00001")


class Told(unittest.TestCase):
    def test_pair_map(self):
        self.assertEqual(maps.pair_map(LOOP, (0, (0,)), (0, (0,)), (0, 0, 1, 1, 1)), (((0, 1), (0, 0)),))
        self.assertEqual(maps.pair_map(LOOP, (0, (0,)), (0, (-1,)), (0, 1, 0, 1, -1)), (((0, 1), (1, 0)),))
        rng = random.Random(140)
        for plan in naive.plans_for(140, 80, 5):
            walk, other = drawn_walks(rng, plan, 2)
            room, goal = walk_room(plan, walk), walk_room(plan, other)
            for pair in map_pairs(plan, walk, other):
                told = maps.pair_map(plan, walk, other, pair)
                self.assertEqual(told, naive_map(plan, walk, other, pair))
                for prime in (2, 7):
                    self.assertTrue(is_hom(plan, prime, room, goal, told))
        long = (0, (0, -2) * 30)
        self.assertEqual(len(maps.pair_map(DOUBLE, long, long, (0, 60, 0, 60, 1))[0]), 31)

    def test_what_is_no_pair(self):
        for bad in BAD_PAIRS:
            self.assertEqual(raised(maps.pair_map, LINE, (0, (0, 1)), (0, (0, 1)), bad), ("NotMap", -1), bad)
        self.assertEqual(maps.pair_map(POINT, (0, ()), (0, ()), (0, 0, 0, 0, 1)), (((1,),),))
        rng = random.Random(141)
        for plan in naive.plans_for(141, 30, 4):
            walk, other = drawn_walks(rng, plan, 2, 4)
            known = map_pairs(plan, walk, other)
            places = range(-1, 6)
            for _ in range(60):
                pair = tuple(rng.choice(places) for _ in range(4)) + (rng.choice((1, -1, 0)),)
                told = raised(maps.pair_map, plan, walk, other, pair)
                self.assertEqual(told == ("NotMap", -1), pair not in known)

    def test_told_by(self):
        rng = random.Random(142)
        for plan in naive.plans_for(142, 80, 5):
            prime = rng.choice(PRIMES)
            walk, other = drawn_walks(rng, plan, 2)
            room, goal = walk_room(plan, walk), walk_room(plan, other)
            pairs = map_pairs(plan, walk, other)
            numbers = [(pair, rng.randrange(prime)) for pair in pairs]
            tables = [naive_map(plan, walk, other, pair) for pair in pairs]
            rows = tuple(tuple(tuple(sum(n * table[p][i][j] for (_, n), table in zip(numbers, tables)) % prime
                                     for j in range(goal[0][p])) for i in range(room[0][p])) for p in range(plan[0]))
            self.assertEqual(maps.told_by(plan, prime, walk, other, rows), tuple(t for t in numbers if t[1]))
            if sum(a * b for a, b in zip(room[0], goal[0])) <= 40:
                for told in homs.map_basis(plan, prime, room, goal):
                    self.assertNotEqual(maps.told_by(plan, prime, walk, other, told), ())
            wrong = [[list(row) for row in table] for table in rows]
            places = [(p, i, j) for p, table in enumerate(wrong) for i, row in enumerate(table)
                      for j in range(len(row))]
            if places:
                p, i, j = rng.choice(places)
                wrong[p][i][j] = (wrong[p][i][j] + 1) % prime
                wrong = tuple(tuple(map(tuple, table)) for table in wrong)
                found = raised(maps.told_by, plan, prime, walk, other, wrong)
                if is_hom(plan, prime, room, goal, wrong):
                    self.assertEqual(found[0], "nothing raised")
                else:
                    self.assertEqual(found, ("NotMap", -1))

    def test_told_by_what_is_none(self):
        walk = (0, (0, -2))
        good = (((1, 0), (0, 1)), ((1,),))
        self.assertEqual(maps.told_by(DOUBLE, 3, walk, walk, good), (((0, 2, 0, 2, 1), 1),))
        self.assertEqual(maps.told_by(DOUBLE, 3, walk, walk, (((0, 0), (0, 0)), ((0,),))), ())
        self.assertEqual(maps.told_by(POINT, 3, (0, ()), (0, ()), (((2,),),)), (((0, 0, 0, 0, 1), 2),))
        for bad in naive.ODD_VALUES + (good[:1], good + ((),), list(good)):
            if bad not in ((1, 2), ((), ())) and bad != (0, [0]):
                told = raised(maps.told_by, DOUBLE, 3, walk, walk, bad)
                place = 0
                self.assertEqual(told, ("NotMap", place), bad)
        for bad in (None, True, (), ((1,),), ((1, 0), (0, 3)), ((1, 0), (0, -1)), ((1, 0), (0, True)), [[1, 0], [0, 1]],
                    ((1, 0), [0, 1]), ((1, 0), (0, 1), (0, 0)), ((1, 0, 0), (0, 1, 0)), (1, 0), "ab"):
            self.assertEqual(raised(maps.told_by, DOUBLE, 3, walk, walk, (bad, good[1])), ("NotMap", 0), bad)
            self.assertEqual(raised(maps.told_by, DOUBLE, 3, walk, walk, (bad, None)), ("NotMap", 0), bad)
        for bad in (None, ((3,),), ((),), ((1, 0),), ((1,), (1,)), ((1.0,),)):
            self.assertEqual(raised(maps.told_by, DOUBLE, 3, walk, walk, (good[0], bad)), ("NotMap", 1), bad)
        for rows in ((((1, 0), (0, 2)), ((1,),)), (((0, 1), (0, 0)), ((0,),)), (((1, 0), (0, 1)), ((2,),))):
            self.assertEqual(raised(maps.told_by, DOUBLE, 3, walk, walk, rows), ("NotMap", -1), rows)


class Products(unittest.TestCase):
    def test_behind(self):
        rng = random.Random(143)
        some = 0
        for plan in naive.plans_for(143, 80, 5):
            walk, other, third = drawn_walks(rng, plan, 3)
            goal = walk_room(plan, third)
            for pair in map_pairs(plan, walk, other):
                for next_pair in map_pairs(plan, other, third):
                    told = maps.behind(plan, walk, other, third, pair, next_pair)
                    tables = product(plan, 2, goal, naive_map(plan, walk, other, pair),
                                     naive_map(plan, other, third, next_pair))
                    if told is None:
                        self.assertFalse(any(any(any(row) for row in table) for table in tables))
                    else:
                        some += 1
                        self.assertIn(told, map_pairs(plan, walk, third))
                        self.assertEqual(tables, naive_map(plan, walk, third, told))
        self.assertGreater(some, 50)

    def test_behind_what_is_none(self):
        walk, whole = (0, (0, 1)), (0, 2, 0, 2, 1)
        for bad in BAD_PAIRS:
            self.assertEqual(raised(maps.behind, LINE, walk, walk, walk, bad, whole), ("NotMap", -1))
            self.assertEqual(raised(maps.behind, LINE, walk, walk, walk, bad, bad), ("NotMap", -1))
            self.assertEqual(raised(maps.behind, LINE, walk, walk, walk, whole, bad), ("NotMap", -2))
        self.assertEqual(maps.behind(LINE, walk, walk, walk, whole, whole), whole)
        self.assertIsNone(maps.behind(LOOP, (0, (0,)), (0, (0,)), (0, (0,)), (0, 0, 1, 1, 1), (0, 0, 1, 1, 1)))

    def test_through(self):
        self.assertEqual(maps.through(LOOP, (0, (0,)), (0, ()), (0, (0,))), ((0, 0, 1, 1, 1),))
        self.assertEqual(maps.through(POINT, (0, ()), (0, ()), (0, ())), ((0, 0, 0, 0, 1),))
        rng = random.Random(144)
        for plan in naive.plans_for(144, 60, 4):
            walk, third, other = drawn_walks(rng, plan, 3)
            found = {maps.behind(plan, walk, third, other, one, two)
                     for one in map_pairs(plan, walk, third) for two in map_pairs(plan, third, other)} - {None}
            told = maps.through(plan, walk, third, other)
            self.assertEqual(told, tuple(sorted(found)))
            # Sums of maps to third and then to other are the sums of these.
            goal = walk_room(plan, other)
            if sum(walk_room(plan, walk)[0]) * sum(goal[0]) < 60:
                rooms = [string_room(plan, w) for w in (walk, third, other)]
                lot = [product(plan, 3, goal, one, two) for one in homs.map_basis(plan, 3, rooms[0], rooms[1])
                       for two in homs.map_basis(plan, 3, rooms[1], rooms[2])]
                flat = [tuple(x for table in one for row in table for x in row) for one in lot]
                self.assertEqual(naive_rooms.rank(3, flat), len(told))


class Own(unittest.TestCase):
    def test_own_pairs(self):
        self.assertEqual(maps.own_pairs(POINT, (0, ())), ())
        self.assertEqual(maps.own_pairs(LOOP, (0, (0,))), ((0, 0, 1, 1, 1),))
        self.assertIs(maps.is_brick(LINE, (0, (0, 1))), True)
        self.assertIs(maps.is_brick(LOOP, (0, (0,))), False)
        rng = random.Random(145)
        for plan in naive.plans_for(145, 80):
            walk = naive.drawn_walk(rng, plan, 12)
            n = len(walk[1])
            self.assertIn((0, n, 0, n, 1), map_pairs(plan, walk, walk))
            told = maps.own_pairs(plan, walk)
            self.assertEqual(told, tuple(p for p in map_pairs(plan, walk, walk) if p != (0, n, 0, n, 1)))
            self.assertIs(maps.is_brick(plan, walk), map_number(plan, walk, walk) == 1)
            self.assertIs(maps.is_brick(plan, walk), not told)

    def test_vanishing(self):
        self.assertEqual(maps.vanishing(POINT, (0, ())), 1)
        self.assertEqual(maps.vanishing(LOOP, (0, (0,))), 2)
        rng = random.Random(146)
        met = {}
        for plan in naive.plans_for(146, 60, 4) + [CHAINED] * 10:
            walk = naive.drawn_walk(rng, plan, 14)
            pairs = maps.own_pairs(plan, walk)
            lot, number = set(pairs), 1
            while lot:
                lot = {maps.behind(plan, walk, walk, walk, one, two) for one in lot for two in pairs} - {None}
                number += 1
            self.assertEqual(maps.vanishing(plan, walk), number)
            met[number] = met.get(number, 0) + 1
        self.assertTrue({1, 2, 3} <= set(met), met)
        self.assertEqual(maps.vanishing(CHAINED, (1, (-2, 0) * 15 + (2, 3) + (-5, 3) * 14)) > 1, True)

    def test_what_can_be_undone(self):
        rng = random.Random(147)
        for plan in naive.plans_for(147, 40, 4):
            prime = rng.choice((2, 3))
            walk = naive.drawn_walk(rng, plan, 8)
            room, n = walk_room(plan, walk), len(walk[1])
            pairs = map_pairs(plan, walk, walk)
            for _ in range(5):
                numbers = {pair: rng.randrange(prime) for pair in pairs}
                tables = tuple(tuple(tuple(sum(k * naive_map(plan, walk, walk, pair)[p][i][j]
                                               for pair, k in numbers.items()) % prime for j in range(room[0][p]))
                                     for i in range(room[0][p])) for p in range(plan[0]))
                self.assertIs(homs.is_alike_map(plan, prime, room, room, tables), numbers[0, n, 0, n, 1] > 0)


class Parts(unittest.TestCase):
    def test_by_hand(self):
        walk, other = (0, (0, -2, 0)), (0, (0, -2, 0, -2))
        pair = (2, 3, 0, 1, 1)
        self.assertEqual(maps.parts_of(DOUBLE, walk, other, pair),
                         (((0, (0,)),), ((0, (0,)),), ((0, (0, -2)),)))
        for pair in map_pairs(DOUBLE, walk, other):
            told = maps.parts_of(DOUBLE, walk, other, pair)
            self.assertEqual(len(told), 3)
            self.assertEqual(len(told[1]), 1)
        self.assertEqual(maps.parts_of(LOOP, (0, (0,)), (0, (0,)), (0, 0, 1, 1, 1)),
                         (((0, ()),), ((0, ()),), ((0, ()),)))
        self.assertEqual(maps.parts_of(POINT, (0, ()), (0, ()), (0, 0, 0, 0, 1)), ((), ((0, ()),), ()))

    def test_kernel_image_and_rest(self):
        from stringrooms.apart import strings_in
        from stringrooms.rooms import left_room, sub_room
        rng = random.Random(148)
        for plan in naive.plans_for(148, 100, 4):
            walk, other = drawn_walks(rng, plan, 2, 8)
            for pair in map_pairs(plan, walk, other):
                room, goal = walk_room(plan, walk), walk_room(plan, other)
                told = maps.pair_map(plan, walk, other, pair)
                kernel = homs.map_kernel(plan, 2, room, goal, told)
                image = homs.map_image(plan, 2, room, goal, told)
                found = (sub_room(plan, 2, room, kernel), sub_room(plan, 2, goal, image),
                         left_room(plan, 2, goal, image))
                lists = tuple(tuple(w for w, many in strings_in(plan, 2, one) for _ in range(many)) for one in found)
                self.assertEqual(maps.parts_of(plan, walk, other, pair), lists)
                self.assertIs(maps.is_onto(plan, walk, other, pair), not lists[2])
                self.assertIs(maps.is_one_to_one(plan, walk, other, pair), not lists[0])

    def test_all_strings_of_small_plans(self):
        for plan in (LINE, naive.TAILED, naive.RING):
            lot = strings_upto(plan, 4)
            for walk, other in itertools.product(lot, repeat=2):
                for pair in map_pairs(plan, walk, other):
                    one, two, three = maps.parts_of(plan, walk, other, pair)
                    self.assertEqual(sum(len(w[1]) + 1 for w in one + two), len(walk[1]) + 1)
                    self.assertEqual(sum(len(w[1]) + 1 for w in two + three), len(other[1]) + 1)


if __name__ == "__main__":
    unittest.main()
