"""[75], [76] What full lots make."""

import random
import unittest

from stringrooms import making
from stringrooms.forms import beside
from stringrooms.homs import map_basis, map_image
from stringrooms.fields import rank
from stringrooms.lots import least_lot, most_lot
from stringrooms.peace import stops
from stringrooms.pieces import map_number, map_pairs
from stringrooms.rooms import part_room, string_room
from stringrooms.rounds import all_strings
from stringrooms.walks import points_of, sizes_of, turned
from tests import naive, naive_lots, naive_rooms
from tests.naive import CHAINED, DOUBLE, LINE, LOOP, POINT, TAILED, raised


def is_reached(plan, prime, lot, room):
    """Whether what all maps from the lot's strings lead units to adds up to all units of a room, by tables."""
    rows = [[] for _ in range(plan[0])]
    for string in lot[0]:
        start = string_room(plan, string)
        for told in map_basis(plan, prime, start, room):
            for p, base in enumerate(map_image(plan, prime, start, room, told)):
                rows[p].extend(base)
    return all(rank(tuple(rows[p]), prime) == room[0][p] for p in range(plan[0]))


def sample(seed, many, most=5, each=3):
    rng = random.Random(seed)
    for plan in naive.plans_for(seed, many, most) + [DOUBLE, TAILED, CHAINED] * 4:
        for _ in range(each):
            yield rng, plan, naive_lots.drawn_lot(rng, plan, 4)


class Makes(unittest.TestCase):
    def test_by_hand(self):
        most, least = most_lot(LINE), least_lot(LINE)
        self.assertIs(making.makes(LINE, most, (1, ())), True)
        self.assertIs(making.makes(LINE, least, (1, ())), False)
        lot = (((0, ()),), (1, 2))
        self.assertIs(making.makes(LINE, lot, (0, ())), True)
        self.assertIs(making.makes(LINE, lot, (0, (0,))), False)
        self.assertEqual(making.made(LINE, most), all_strings(LINE))
        self.assertEqual(making.made(LINE, least), ())
        self.assertEqual(making.made(LINE, lot), ((0, ()),))
        self.assertIs(making.over(LINE, most, lot), True)
        self.assertIs(making.over(LINE, lot, most), False)
        self.assertIs(making.over(LINE, least, least), True)
        band = ("band", (-2, 0), (1,))
        self.assertIs(making.part_made(DOUBLE, 3, most_lot(DOUBLE), band), True)
        self.assertIs(making.part_made(DOUBLE, 3, (((1, ()),), (0,)), band), False)
        self.assertIs(making.part_made(DOUBLE, 3, (((0, ()), (0, (0, -2))), ()), band), False)
        self.assertIs(making.part_made(DOUBLE, 3, (((1, (-2, 0)), (1, (-2, 0, -2, 0))), ()), band), True)

    def test_parts_by_tables(self):
        met = {}
        for rng, plan, lot in sample(330, 100):
            prime = rng.choice(naive.PRIMES)
            for part in naive_rooms.drawn_parts(rng, plan, prime, 18, 4, letters=5):
                room = part_room(plan, prime, part)
                if sum(len(s[1]) + 1 for s in lot[0]) > 60 or sum(room[0]) > 12:
                    continue
                told = is_reached(plan, prime, lot, room)
                self.assertIs(making.part_made(plan, prime, lot, part), told, (plan, prime, lot, part))
                if part[0] == "string":
                    self.assertIs(making.makes(plan, lot, part[1]), told)
                    self.assertIs(making.makes(plan, lot, turned(plan, part[1])), told)
                met[part[0], told] = met.get((part[0], told), 0) + 1
        self.assertEqual(len(met), 4, met)
        self.assertGreater(min(met.values()), 8, met)

    def test_walks(self):
        met = {True: 0, False: 0}
        for rng, plan, lot in sample(331, 100):
            walk = naive.drawn_walk(rng, plan, 8)
            told = making.makes(plan, lot, walk)
            places = making.reach(plan, lot[0], walk)
            self.assertIs(told, places == tuple(range(len(walk[1]) + 1)))
            fits = not set(points_of(plan, walk)) & set(lot[1]) and all(stops(plan, walk, w) == 0 for w in lot[0])
            self.assertIs(told, fits)
            met[told] += 1
        self.assertGreater(min(met.values()), 40)

    def test_lists(self):
        for rng, plan in naive_lots.rng_plans(332, naive_lots.without_bands(332, 100)):
            lot, other = naive_lots.drawn_lot(rng, plan), naive_lots.drawn_lot(rng, plan)
            told = making.made(plan, lot)
            self.assertEqual(told, tuple(s for s in all_strings(plan) if making.makes(plan, lot, s)))
            self.assertTrue(set(lot[0]) <= set(told))
            both = set(making.made(plan, other)) <= set(told)
            self.assertIs(making.over(plan, lot, other), both)

    def test_errors_of_made(self):
        for plan in (DOUBLE, CHAINED, beside(naive.GREAT, DOUBLE)):
            self.assertEqual(raised(making.made, plan, least_lot(plan)), ("Endless",))
        self.assertEqual(raised(making.made, naive.GREAT, least_lot(naive.GREAT)), ("TooGreat", 2000))
        self.assertEqual(len(making.made(naive.WIDE, most_lot(naive.WIDE))), 1787)
        self.assertEqual(making.made(naive.WIDE, least_lot(naive.WIDE)), ())


class Reached(unittest.TestCase):
    def test_by_hand(self):
        self.assertEqual(making.reach(LINE, (), (0, (0, 1))), ())
        self.assertEqual(making.reach(LINE, ((2, ()),), (0, (0, 1))), (2,))
        self.assertEqual(making.reach(LINE, ((1, ()),), (0, (0, 1))), ())
        self.assertEqual(making.reach(LINE, ((1, (1,)), (2, ())), (0, (0, 1))), (1, 2))
        self.assertEqual(making.reach(LINE, ((2, ()),), (2, (-2, -1))), (0,))
        self.assertEqual(making.first_part(LINE, (((2, ()),), (0, 1)), (0, (0, 1))), (((2, ()),), ((0, (0,)),)))
        self.assertEqual(making.first_part(LINE, least_lot(LINE), (0, (0, 1))), ((), ((0, (0, 1)),)))
        self.assertEqual(making.first_part(LINE, most_lot(LINE), (0, (0, 1))), (((0, (0, 1)),), ()))
        self.assertEqual(making.first_part(LOOP, least_lot(LOOP), (0, (0,))), ((), ((0, (-1,)),)))
        self.assertEqual(making.first_part(POINT, most_lot(POINT), (0, ())), (((0, ()),), ()))

    def test_drawn(self):
        met = 0
        for rng, plan, lot in sample(333, 100):
            walk = naive.drawn_walk(rng, plan, 8)
            strings = tuple(sorted({naive.string(plan, naive.drawn_walk(rng, plan, 5)) for _ in range(2)}))
            for some in (strings, lot[0]):
                places = {k for s in some for pair in map_pairs(plan, s, walk) for k in range(pair[2], pair[3] + 1)}
                self.assertEqual(making.reach(plan, some, walk), tuple(sorted(places)))
            first, left = making.first_part(plan, lot, walk)
            self.assertEqual((list(first), list(left)), (sorted(first), sorted(left)))
            units = [sum(column) for column in zip((0,) * plan[0], *[sizes_of(plan, s) for s in first + left])]
            self.assertEqual(units, list(sizes_of(plan, walk)))
            self.assertEqual(sum(len(s[1]) + 1 for s in first), len(places))
            for s in first:
                self.assertIs(making.makes(plan, lot, s), True)
            for s in left:
                self.assertFalse(any(map_number(plan, x, s) for x in lot[0]))
            met += bool(first and left)
        self.assertGreater(met, 30)


if __name__ == "__main__":
    unittest.main()
