"""[7], [37], [38] Maps by tables."""

import itertools
import random
import unittest

from stringrooms import apart, fields, homs, rooms
from stringrooms.rounds import band_place
from tests import naive, naive_rooms
from tests.naive import DOUBLE, LINE, POINT, PRIMES, raised
from tests.naive_rooms import drawn_room, eye, hom_number, is_hom, mul, row_sums
from tests.test_apart import drawn_sum


def in_one_row(told):
    return tuple(x for table in told for row in table for x in row)


def total(prime, maps, numbers):
    """The sum of maps, each so often."""
    return tuple(tuple(tuple(sum(n * x for n, x in zip(numbers, entries)) % prime for entries in zip(*rows))
                       for rows in zip(*tables)) for tables in zip(*maps))


def follow(plan, prime, room, other, third, one, next_one):
    return tuple(mul(prime, one[p], next_one[p], third[0][p]) for p in range(plan[0]))


class Bases(unittest.TestCase):
    def test_by_hand(self):
        line = rooms.string_room(LINE, (0, (0, 1)))
        self.assertEqual(homs.map_basis(LINE, 3, line, line), ((((1,),), ((1,),), ((1,),)),))
        start, end = rooms.string_room(LINE, (0, ())), rooms.string_room(LINE, (2, ()))
        self.assertEqual(homs.map_basis(LINE, 3, line, start), ((((1,),), ((),), ((),)),))
        self.assertEqual(homs.map_basis(LINE, 3, line, end), ())
        self.assertEqual(homs.map_basis(LINE, 3, end, line), (((), (), ((1,),)),))
        self.assertEqual(homs.map_size(LINE, 3, start, line), 0)
        empty = rooms.empty_room(LINE)
        self.assertEqual(homs.map_basis(LINE, 3, empty, line), ())
        self.assertEqual(homs.map_basis(LINE, 3, line, empty), ())
        self.assertEqual(homs.map_size(POINT, 3, ((2,), ()), ((3,), ())), 6)
        self.assertEqual(homs.map_basis(POINT, 3, ((1,), ()), ((2,), ())), ((((1, 0),),), (((0, 1),),)))

    def test_drawn(self):
        rng = random.Random(120)
        for plan in naive.plans_for(120, 100, 4):
            prime = rng.choice(PRIMES)
            room, other = drawn_room(rng, plan, prime), drawn_room(rng, plan, prime)
            if sum(a * b for a, b in zip(room[0], other[0])) > 150:
                continue
            told = homs.map_basis(plan, prime, room, other)
            self.assertEqual(len(told), hom_number(plan, prime, room, other))
            self.assertEqual(homs.map_size(plan, prime, room, other), len(told))
            flat = tuple(in_one_row(one) for one in told)
            self.assertEqual(fields.reduced(flat, prime), flat)
            for one in told:
                self.assertTrue(is_hom(plan, prime, room, other, one))
                self.assertIs(homs.is_map(plan, prime, room, other, one), True)

    def test_all_maps_by_search(self):
        rng = random.Random(121)
        for plan in naive.plans_for(121, 80, 3):
            room, other = drawn_room(rng, plan, 2, 2), drawn_room(rng, plan, 2, 2)
            many = sum(a * b for a, b in zip(room[0], other[0]))
            if many > 9:
                continue
            lots = [list(naive.all_tables(2, room[0][p], other[0][p])) for p in range(plan[0])]
            found = {in_one_row(one) for one in itertools.product(*lots) if is_hom(plan, 2, room, other, one)}
            told = homs.map_basis(plan, 2, room, other)
            self.assertEqual(row_sums(2, [in_one_row(one) for one in told], many), found)

    def test_one_hundred_and_fifty(self):
        for first, second in ((15, 10), (10, 15), (3, 50), (12, 12)):
            if first + second <= 40:
                self.assertEqual(homs.map_size(POINT, 2, ((first,), ()), ((second,), ())), first * second)
        two = (2, (), ())
        self.assertEqual(homs.map_size(two, 2, ((10, 10), ()), ((10, 5), ())), 150)
        for call in (homs.map_basis, homs.map_size):
            self.assertEqual(raised(call, two, 2, ((10, 10), ()), ((10, 6), ())), ("TooGreat", 150))
            self.assertEqual(raised(call, (3, (), ()), 2, ((10, 10, 1), ()), ((10, 5, 1), ())), ("TooGreat", 150))
            self.assertEqual(raised(call, POINT, 2, ((1,), ()), ((151,), ())), ("TooGreat", 150))
            self.assertNotEqual(raised(call, POINT, 2, ((6,), ()), ((25,), ())), ("TooGreat", 150))
        units = ((39, 1), (((0,),) * 39,) * 2)
        other = ((1, 39), (((0,) * 39,),) * 2)
        self.assertEqual(homs.map_size(DOUBLE, 2, units, other), 78)


class Maps(unittest.TestCase):
    def test_is_map(self):
        room = rooms.string_room(DOUBLE, (0, (0, -2)))
        good = (eye(2), eye(1))
        self.assertIs(homs.is_map(DOUBLE, 3, room, room, good), True)
        self.assertIs(homs.is_map(DOUBLE, 3, room, room, (((2, 0), (0, 2)), ((2,),))), True)
        self.assertIs(homs.is_map(DOUBLE, 3, room, room, (((2, 0), (0, 1)), ((2,),))), False)
        for bad in naive.ODD_VALUES + ((eye(2),), (eye(2), eye(1), ()), [eye(2), eye(1)], (eye(2), eye(2)),
                                       (eye(1), eye(1)), (eye(2), ((True,),)), (eye(2), ((4,),)), (eye(2), ((-2,),)),
                                       (eye(2), [[1]]), (list(eye(2)), eye(1)), (eye(2), (1,)), (eye(2), ((1.0,),)),
                                       (((4, 0), (0, 4)), ((4,),))):
            self.assertIs(homs.is_map(DOUBLE, 3, room, room, bad), False, bad)
            self.assertIs(homs.is_alike_map(DOUBLE, 3, room, room, bad), False, bad)
        self.assertIs(homs.is_map(DOUBLE, 3, rooms.empty_room(DOUBLE), room, ((), ())), True)
        self.assertIs(homs.is_map(DOUBLE, 3, room, rooms.empty_room(DOUBLE), (((), ()), ((),))), True)
        self.assertIs(homs.is_map(DOUBLE, 3, room, rooms.empty_room(DOUBLE), ((), ())), False)

    def test_kernel_image_after(self):
        rng = random.Random(122)
        met = 0
        for plan in naive.plans_for(122, 100, 4):
            prime = rng.choice((2, 3))
            room, other, third = (drawn_room(rng, plan, prime, 2) for _ in range(3))
            maps = homs.map_basis(plan, prime, room, other)
            nexts = homs.map_basis(plan, prime, other, third)
            if not maps or max(room[0] + other[0]) > 5:
                continue
            met += 1
            one = total(prime, maps, [rng.randrange(prime) for _ in maps])
            self.assertTrue(homs.is_map(plan, prime, room, other, one))
            kernel = homs.map_kernel(plan, prime, room, other, one)
            image = homs.map_image(plan, prime, room, other, one)
            for p in range(plan[0]):
                nothing = {row for row in naive_rooms.all_rows(prime, room[0][p])
                           if not any(mul(prime, (row,), one[p], other[0][p])[0])}
                self.assertEqual(row_sums(prime, kernel[p], room[0][p]), nothing)
                self.assertEqual(row_sums(prime, image[p], other[0][p]), row_sums(prime, one[p], other[0][p]))
                self.assertEqual(fields.reduced(kernel[p], prime), kernel[p])
                self.assertEqual(fields.reduced(image[p], prime), image[p])
            self.assertTrue(rooms.is_closed(plan, prime, room, kernel))
            self.assertTrue(rooms.is_closed(plan, prime, other, image))
            self.assertTrue(apart.alike(plan, prime, rooms.left_room(plan, prime, room, kernel),
                                        rooms.sub_room(plan, prime, other, image)))
            if nexts:
                two = total(prime, nexts, [rng.randrange(prime) for _ in nexts])
                told = homs.after(plan, prime, room, other, third, one, two)
                self.assertEqual(told, follow(plan, prime, room, other, third, one, two))
                self.assertTrue(homs.is_map(plan, prime, room, third, told))
        self.assertGreater(met, 40)

    def test_after_nothing(self):
        room, empty = rooms.string_room(DOUBLE, (0, (0,))), rooms.empty_room(DOUBLE)
        self.assertEqual(homs.after(DOUBLE, 3, room, empty, room, (((),), ((),)), ((), ())), (((0,),), ((0,),)))
        self.assertEqual(homs.map_kernel(DOUBLE, 3, room, empty, (((),), ((),))), (((1,),), ((1,),)))
        self.assertEqual(homs.map_image(DOUBLE, 3, room, empty, (((),), ((),))), ((), ()))


class Alike(unittest.TestCase):
    def test_alike_maps(self):
        rng = random.Random(123)
        seen = {True: 0, False: 0}
        for plan in naive.plans_for(123, 120, 4):
            prime = rng.choice(PRIMES)
            parts, room = drawn_sum(rng, plan, prime)
            other, turn = naive_rooms.other_units(rng, plan, prime, room)
            self.assertIs(homs.is_alike_map(plan, prime, other, room, turn), True)
            told = homs.alike_map(plan, prime, room, other)
            self.assertIs(homs.is_alike_map(plan, prime, room, other, told), True)
            self.assertTrue(is_hom(plan, prime, room, other, told))
            self.assertTrue(all(naive_rooms.rank(prime, table) == n for table, n in zip(told, room[0])))
            third = drawn_sum(rng, plan, prime, most=6)[1]
            same = apart.alike(plan, prime, room, third)
            found = raised(homs.alike_map, plan, prime, room, third)
            self.assertEqual(found[0] == "Unlike", not same)
            seen[same] += 1
        self.assertGreater(seen[False], 50)

    def test_not_alike(self):
        room = rooms.string_room(DOUBLE, (0, (0,)))
        other = rooms.string_room(DOUBLE, (0, (1,)))
        self.assertEqual(raised(homs.alike_map, DOUBLE, 3, room, other), ("Unlike",))
        self.assertEqual(raised(homs.alike_map, DOUBLE, 3, room, rooms.empty_room(DOUBLE)), ("Unlike",))
        nothing = (((0,),), ((0,),))
        self.assertIs(homs.is_map(DOUBLE, 3, room, other, nothing), True)
        self.assertIs(homs.is_alike_map(DOUBLE, 3, room, other, nothing), False)
        wide = rooms.string_room(DOUBLE, (0, (0, -2)))
        self.assertIs(homs.is_alike_map(DOUBLE, 3, room, wide, homs.map_basis(DOUBLE, 3, room, wide)[0]), False)
        self.assertEqual(homs.alike_map(DOUBLE, 3, rooms.empty_room(DOUBLE), rooms.empty_room(DOUBLE)), ((), ()))

    def test_sixteen_and_seventeen(self):
        fine, great, none = ((16,), ()), ((17,), ()), ((0,), ())
        told = homs.alike_map(POINT, 2, fine, fine)
        self.assertTrue(homs.is_alike_map(POINT, 2, fine, fine, told))
        for pair in ((great, great), (great, none), (none, great)):
            self.assertEqual(raised(homs.alike_map, POINT, 2, *pair), ("TooGreat", 16))
        self.assertEqual(raised(homs.apart_map, POINT, 2, great), ("TooGreat", 16))
        self.assertEqual(len(homs.apart_map(POINT, 2, fine)[0]), 16)


class Split(unittest.TestCase):
    def test_parts_split_off(self):
        rng = random.Random(124)
        bands = 0
        for plan in naive.plans_for(124, 180, 4):
            prime = rng.choice(PRIMES)
            parts, room = drawn_sum(rng, plan, prime)
            for part in parts:
                goal = naive_rooms.part(plan, prime, part)
                into, out = homs.split(plan, prime, room, part)
                self.assertTrue(is_hom(plan, prime, goal, room, into))
                self.assertTrue(is_hom(plan, prime, room, goal, out))
                self.assertEqual(follow(plan, prime, goal, room, goal, into, out), tuple(eye(n) for n in goal[0]))
                bands += part[0] == "band"
            known = apart.parts_of_room(plan, prime, room)
            for part in drawn_sum(rng, plan, prime, exponents=(1, 2))[0]:
                if part[0] == "string":
                    stands = naive.string(plan, part[1]) in [walk for walk, _ in known[0]]
                else:
                    way = band_place(plan, part[1])[1]
                    marked = (naive.band(part[1]), part[2] if way == 1 else fields.undone(prime, part[2]))
                    stands = marked in [triple[:2] for triple in known[1]]
                found = raised(homs.split, plan, prime, room, part)
                self.assertEqual(found[0] == "NoWay", not stands)
        self.assertGreater(bands, 15)

    def test_like_a_part_but_none(self):
        # A band's room has maps from and to its powers, but they are no parts.
        room = rooms.band_room(DOUBLE, 3, (0, -2), (1, 2))
        self.assertEqual(fields.power_of(3, (1, 2)), ((1,), 2))
        for poly in ((1,), (2,), (1, 0, 0), (2, 2)):
            self.assertEqual(raised(homs.split, DOUBLE, 3, room, ("band", (0, -2), poly)), ("NoWay",))
        self.assertEqual(raised(homs.split, DOUBLE, 3, room, ("string", (0, ()))), ("NoWay",))
        into, out = homs.split(DOUBLE, 3, room, ("band", (1, -1), fields.undone(3, (1, 2))))
        self.assertEqual(tuple(mul(3, a, b, 2) for a, b in zip(into, out)), (eye(2), eye(2)))
        self.assertEqual(raised(homs.split, DOUBLE, 3, rooms.empty_room(DOUBLE), ("string", (1, ()))), ("NoWay",))

    def test_sixteen_units_at_one_point(self):
        rng = random.Random(125)
        room, _ = naive_rooms.other_units(rng, POINT, 7, ((16,), ()))
        into, out = homs.split(POINT, 7, room, ("string", (0, ())))
        self.assertEqual(mul(7, into[0], out[0], 1), ((1,),))

    def test_apart_map(self):
        rng = random.Random(126)
        for plan in naive.plans_for(126, 120, 4):
            prime = rng.choice(PRIMES)
            room = drawn_sum(rng, plan, prime)[1] if rng.random() < 0.6 else drawn_room(rng, plan, prime)
            if sum(room[0]) > 16:
                continue
            parts, told = homs.apart_map(plan, prime, room)
            strings, bands = apart.parts_of_room(plan, prime, room)
            row = [("string", walk) for walk, many in strings for _ in range(many)]
            row += [("band", letters, poly) for letters, poly, many in bands for _ in range(many)]
            self.assertEqual(parts, tuple(row))
            total_room = naive_rooms.sum_of(plan, [naive_rooms.part(plan, prime, part) for part in parts])
            self.assertTrue(is_hom(plan, prime, total_room, room, told))
            self.assertIs(homs.is_alike_map(plan, prime, total_room, room, told), True)
        self.assertEqual(homs.apart_map(DOUBLE, 3, rooms.empty_room(DOUBLE)), ((), ((), ())))


if __name__ == "__main__":
    unittest.main()
