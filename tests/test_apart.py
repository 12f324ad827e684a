"""[33], [34], [35], [36] Rooms taken apart."""

import random
import unittest

from stringrooms import apart, fields, rooms, tables
from stringrooms.rounds import band_of, band_place, begun_at, turned_round
from stringrooms.walks import string_of
from tests import naive, naive_rooms
from tests.naive import DOUBLE, LOOP, POINT, PRIMES, raised
from tests.naive_rooms import drawn_parts, drawn_room, mul, row_sums


def expected(plan, prime, parts):
    """What parts_of_room has to tell of the sum of parts."""
    strings, bands = {}, {}
    for part in parts:
        if part[0] == "string":
            walk = naive.string(plan, part[1])
            strings[walk] = strings.get(walk, 0) + 1
        else:
            way = band_place(plan, part[1])[1]
            marked = (naive.band(part[1]), part[2] if way == 1 else fields.undone(prime, part[2]))
            bands[marked] = bands.get(marked, 0) + 1
    return (tuple(sorted(strings.items())), tuple(sorted(key + (many,) for key, many in bands.items())))


def standing(plan, walk, string):
    """How often a walk stands in a string as a row of letters, as it is or turned about."""
    if not walk[1]:
        return naive.points(plan, string).count(walk[0])
    n, row = len(walk[1]), string[1]
    about = naive.about(plan, walk)[1]
    return sum(row[k:k + n] == walk[1] for k in range(len(row) - n + 1)) \
        + sum(row[k:k + n] == about for k in range(len(row) - n + 1))


def standing_round(plan, walk, row):
    """How often a walk stands in an endless row or in that turned about, begun at one of its places."""
    n = len(row)
    if not walk[1]:
        return sum(naive.ends(plan, x)[0] == walk[0] for x in row)
    long = row * (len(walk[1]) // n + 2)
    back = tuple(-1 - x for x in reversed(row)) * (len(walk[1]) // n + 2)
    return sum(line[k:k + len(walk[1])] == walk[1] for line in (long, back) for k in range(n))


def drawn_sum(rng, plan, prime, **told):
    parts = drawn_parts(rng, plan, prime, **told)
    room = naive_rooms.sum_of(plan, [naive_rooms.part(plan, prime, part) for part in parts])
    return parts, naive_rooms.other_units(rng, plan, prime, room)[0]


class Along(unittest.TestCase):
    def test_pairs_by_hand(self):
        room = rooms.string_room(DOUBLE, (0, (0, -2)))
        self.assertEqual(apart.pairs_along(DOUBLE, 3, room, (0, ())), ((1, 0, 1, 0), (0, 1, 0, 1)))
        self.assertEqual(apart.pairs_along(DOUBLE, 3, room, (0, (0,))), ((1, 0, 1), (0, 1, 0)))
        self.assertEqual(apart.pairs_along(DOUBLE, 3, room, (1, (-1,))), ((1, 1, 0), (0, 0, 1)))
        self.assertEqual(apart.pairs_along(DOUBLE, 3, rooms.empty_room(DOUBLE), (0, (0,))), ())
        self.assertEqual(apart.pairs_along(DOUBLE, 3, ((0, 2), ((), ())), (0, (0,))), ())
        self.assertEqual(apart.pairs_along(DOUBLE, 3, ((2, 0), (((), ()), ((), ()))), (1, (-1,))), ((1, 0), (0, 1)))

    def test_pairs_by_search(self):
        rng = random.Random(110)
        for plan in naive.plans_for(110, 80, 3):
            prime = rng.choice((2, 3))
            room = drawn_room(rng, plan, prime, 2)
            walk = naive.drawn_walk(rng, plan, 4)
            if max(room[0]) > 4:
                continue
            width = room[0][walk[0]]
            found = {(x, x) for x in naive_rooms.all_rows(prime, width)}
            for letter in walk[1]:
                a, q = max(letter, -1 - letter), naive.ends(plan, letter)[1]
                more = set()
                for x, y in found:
                    if letter >= 0:
                        more.add((x, mul(prime, (y,), room[1][a], room[0][q])[0]))
                    else:
                        more |= {(x, z) for z in naive_rooms.all_rows(prime, room[0][q])
                                 if mul(prime, (z,), room[1][a], len(y))[0] == y}
                found = more
            told = apart.pairs_along(plan, prime, room, walk)
            last = room[0][naive.points(plan, walk)[-1]]
            self.assertEqual(row_sums(prime, told, width + last), {x + y for x, y in found})
            self.assertEqual(fields.reduced(told, prime), told)
            firsts = [x for x, y in found if not any(y)]
            seconds = [y for x, y in found if not any(x)]
            size = len(told) - naive_rooms.rank(prime, firsts) - naive_rooms.rank(prime, seconds)
            self.assertEqual(apart.number_along(plan, prime, room, walk), size)

    def test_numbers_along(self):
        rng = random.Random(111)
        for plan in naive.plans_for(111, 80, 4):
            prime = rng.choice(PRIMES)
            parts, room = drawn_sum(rng, plan, prime, most=30)
            for _ in range(12):
                walk = naive.drawn_walk(rng, plan, 6)
                if parts and rng.random() < 0.5 and plan[1]:
                    part = rng.choice(parts)
                    row = part[1][1] if part[0] == "string" else part[1] * 3
                    low = rng.randint(0, len(row))
                    row = row[low:low + rng.randint(0, 9)]
                    if row:
                        walk = (naive.ends(plan, row[0])[0], row)
                told = 0
                for part in parts:
                    if part[0] == "string":
                        told += standing(plan, walk, part[1])
                    else:
                        told += len(part[2]) * standing_round(plan, walk, part[1])
                self.assertEqual(apart.number_along(plan, prime, room, walk), told)
                self.assertEqual(apart.number_along(plan, prime, room, naive.about(plan, walk)), told)

    def test_long_walks_and_forty_units(self):
        room = rooms.sum_room(DOUBLE, (rooms.band_room(DOUBLE, 5, (0, -2), (2, 1) + (0,) * 8),
                                       rooms.string_room(DOUBLE, (0, (0, -2) * 9 + (0,)))))
        self.assertEqual(sum(room[0]), 40)
        self.assertEqual(apart.number_along(DOUBLE, 5, room, (0, (0, -2) * 30)), 10)
        self.assertEqual(apart.number_along(DOUBLE, 5, room, (0, (0, -2) * 9)), 11)


class Parts(unittest.TestCase):
    def test_by_hand(self):
        self.assertEqual(apart.parts_of_room(DOUBLE, 3, rooms.empty_room(DOUBLE)), ((), ()))
        self.assertEqual(apart.parts_of_room(POINT, 3, ((16,), ())), ((((0, ()), 16),), ()))
        room = rooms.string_room(LOOP, (0, (0,)))
        self.assertEqual(apart.strings_in(LOOP, 3, room), (((0, (-1,)), 1),))
        self.assertEqual(apart.rounds_in(LOOP, 3, room), ())
        # A table of a doubled arrow that has the roots 1 and 2 modulo 3.
        room = ((2, 2), (((1, 0), (0, 1)), ((1, 1), (0, 2))))
        self.assertEqual(apart.parts_of_room(DOUBLE, 3, room), ((), (((-2, 0), (1,), 1), ((-2, 0), (2,), 1))))
        # Nothing led along the one arrow: the string of the other one.
        room = ((1, 1), (((0,),), ((2,),)))
        self.assertEqual(apart.parts_of_room(DOUBLE, 3, room), ((((0, (1,)), 1),), ()))

    def test_drawn_sums(self):
        rng = random.Random(112)
        bands = 0
        for plan in naive.plans_for(112, 200, 5):
            prime = rng.choice(PRIMES)
            parts, room = drawn_sum(rng, plan, prime)
            told = expected(plan, prime, parts)
            self.assertEqual(apart.parts_of_room(plan, prime, room), told)
            self.assertEqual(apart.strings_in(plan, prime, room), told[0])
            self.assertEqual(apart.rounds_in(plan, prime, room), told[1])
            bands += bool(told[1])
        self.assertGreater(bands, 15)

    def test_drawn_tables(self):
        # Whatever the tables are: the sum of the parts has the same numbers along, and is told to be alike.
        rng = random.Random(113)
        for plan in naive.plans_for(113, 100, 4):
            prime = rng.choice(PRIMES)
            room = drawn_room(rng, plan, prime)
            if sum(room[0]) > 16:
                continue
            strings, bands = apart.parts_of_room(plan, prime, room)
            parts = [("string", walk) for walk, many in strings for _ in range(many)]
            parts += [("band", row, poly) for row, poly, many in bands for _ in range(many)]
            for part in parts:
                if part[0] == "band":
                    self.assertEqual(part[1], naive.band(part[1]))
                    fields.power_of(prime, part[2])
                else:
                    self.assertEqual(part[1], naive.string(plan, part[1]))
            other = naive_rooms.sum_of(plan, [naive_rooms.part(plan, prime, part) for part in parts])
            self.assertEqual(other[0], room[0])
            self.assertIs(apart.alike(plan, prime, room, other), True)
            for _ in range(6):
                walk = naive.drawn_walk(rng, plan, 5)
                self.assertEqual(apart.number_along(plan, prime, room, walk),
                                 apart.number_along(plan, prime, other, walk))
            self.assertEqual(naive_rooms.hom_number(plan, prime, room, room),
                             naive_rooms.hom_number(plan, prime, other, other))

    def test_as_the_numbers_tell(self):
        rng = random.Random(114)
        for plan in naive.plans_for(114, 30, 3):
            prime = rng.choice((2, 3))
            room = drawn_sum(rng, plan, prime, most=9)[1]
            told = dict(apart.strings_in(plan, prime, room))

            def number(walk):
                return apart.number_along(plan, prime, room, walk)
            for length in range(4):
                for walk in naive.strings(plan, length):
                    many = number(walk)
                    if length:
                        behind = [x for x in naive.letters_of(plan) if naive.follows(plan, walk[1][-1], x)]
                        ahead = [x for x in naive.letters_of(plan) if naive.follows(plan, x, walk[1][0])]
                        many -= sum(number((walk[0], walk[1] + (x,))) for x in behind)
                        many -= sum(number((naive.ends(plan, y)[0], (y,) + walk[1])) for y in ahead)
                        many += sum(number((naive.ends(plan, y)[0], (y,) + walk[1] + (x,)))
                                    for x in behind for y in ahead)
                    else:
                        many -= sum(number(w) for w in naive.walks(plan, 1) if w[0] == walk[0])
                        many += sum(number(w) for w in naive.strings(plan, 2)
                                    if naive.points(plan, w)[1] == walk[0])
                    self.assertEqual(told.get(walk, 0), many)

    def test_alike(self):
        rng = random.Random(115)
        seen = {True: 0, False: 0}
        for plan in naive.plans_for(115, 120, 3):
            prime = rng.choice(PRIMES)
            parts, room = drawn_sum(rng, plan, prime, most=8)
            others, other = drawn_sum(rng, plan, prime, most=8)
            same = expected(plan, prime, parts) == expected(plan, prime, others)
            self.assertIs(apart.alike(plan, prime, room, other), same)
            self.assertIs(apart.alike(plan, prime, room, naive_rooms.other_units(rng, plan, prime, room)[0]), True)
            seen[same] += 1
        self.assertGreater(min(seen.values()), 5)
        one = rooms.band_room(DOUBLE, 5, (0, -2), (1,))
        self.assertIs(apart.alike(DOUBLE, 5, one, rooms.band_room(DOUBLE, 5, (0, -2), (2,))), False)
        self.assertIs(apart.alike(DOUBLE, 5, one, rooms.empty_room(DOUBLE)), False)

    def test_begun_elsewhere_and_turned_about(self):
        rng = random.Random(116)
        met = 0
        for plan in naive.plans_for(116, 200, 5):
            prime = rng.choice(PRIMES)
            row = naive.drawn_round(rng, plan, 6)
            if not row:
                continue
            met += 1
            poly = rng.choice(fields.irreducibles(prime, rng.choice((1, 2))))
            room = rooms.band_room(plan, prime, row, poly)
            for place in range(len(row)):
                other = rooms.band_room(plan, prime, begun_at(row, place), poly)
                self.assertIs(apart.alike(plan, prime, room, other), True)
            other = rooms.band_room(plan, prime, turned_round(row), fields.undone(prime, poly))
            self.assertIs(apart.alike(plan, prime, room, other), True)
            way = band_place(plan, row)[1]
            self.assertEqual(apart.rounds_in(plan, prime, room),
                             ((band_of(plan, row), poly if way == 1 else fields.undone(prime, poly), 1),))
        self.assertGreater(met, 20)


class Rounds(unittest.TestCase):
    def test_round_divisors(self):
        rng = random.Random(117)
        met = 0
        for plan in naive.plans_for(117, 250, 5):
            prime = rng.choice(PRIMES)
            parts, room = drawn_sum(rng, plan, prime, exponents=(1, 1, 2, 3))
            rows = {part[1] for part in parts if part[0] == "band"}
            other = naive.drawn_round(rng, plan, 6)
            for row in sorted(rows | ({other} if other else set())):
                for told in (row, begun_at(row, len(row) // 2), turned_round(row)):
                    counts = {}
                    for part in parts:
                        if part[0] == "band" and naive.band(part[1]) == naive.band(told):
                            same = band_place(plan, part[1])[1] == band_place(plan, told)[1]
                            poly = part[2] if same else fields.undone(prime, part[2])
                            key = fields.power_of(prime, poly)
                            counts[key] = counts.get(key, 0) + 1
                    found = [(f, k, counts[f, k]) for f, k in sorted(counts, key=lambda fk: (len(fk[0]),) + fk)]
                    self.assertEqual(apart.round_divisors(plan, prime, room, told), tuple(found))
                    met += bool(found)
        self.assertGreater(met, 30)

    def test_a_sum_of_powers(self):
        # A polynomial with two factors is the sum of the powers it has.
        poly = fields.poly_times(7, fields.poly_power(7, (3,), 2), (1, 1, 1))
        self.assertEqual(fields.factors(7, (1, 1, 1))[0][0], (1, 1, 1)) if fields.is_irreducible(7, (1, 1, 1)) else None
        room = rooms.band_room(DOUBLE, 7, (0, -2), poly)
        self.assertEqual(apart.round_divisors(DOUBLE, 7, room, (0, -2)),
                         tuple((f, k, 1) for f, k in fields.factors(7, poly)))
        self.assertEqual(tables.divisors(tables.poly_table(7, poly), 7),
                         apart.round_divisors(DOUBLE, 7, room, (0, -2)))
        self.assertEqual(apart.round_divisors(DOUBLE, 7, rooms.empty_room(DOUBLE), (0, -2)), ())


class Sixteen(unittest.TestCase):
    def test_sixteen_and_seventeen(self):
        fine, great = ((16,), ()), ((17,), ())
        self.assertEqual(apart.strings_in(POINT, 2, fine), (((0, ()), 16),))
        self.assertIs(apart.alike(POINT, 2, fine, fine), True)
        for call, told in ((apart.strings_in, (great,)), (apart.rounds_in, (great,)), (apart.parts_of_room, (great,)),
                           (apart.alike, (great, fine)), (apart.alike, (fine, great)), (apart.alike, (great, great)),
                           (apart.alike, (((0,), ()), great))):
            self.assertEqual(raised(call, POINT, 2, *told), ("TooGreat", 16), call)
        room = rooms.band_room(DOUBLE, 2, (0, -2), (1,) * 8)
        self.assertEqual(sum(f[1] * f[2] * len(f[0]) for f in apart.round_divisors(DOUBLE, 2, room, (0, -2))), 8)
        self.assertEqual(sum(len(f[1]) * f[2] for f in apart.rounds_in(DOUBLE, 2, room)), 8)
        room = rooms.sum_room(DOUBLE, (room, rooms.string_room(DOUBLE, (0, ()))))
        self.assertEqual(raised(apart.round_divisors, DOUBLE, 2, room, (0, -2)), ("TooGreat", 16))
        # Sixteen units at one point, in strings and in a band.
        parts = (("string", (0, (0, -2) * 7 + (0,))),)
        self.assertEqual(string_of(DOUBLE, parts[0][1]), parts[0][1])
        self.assertEqual(apart.parts_of_room(DOUBLE, 2, rooms.parts_room(DOUBLE, 2, parts)), (((parts[0][1], 1),), ()))


if __name__ == "__main__":
    unittest.main()
