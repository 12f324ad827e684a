"""[55], [56], [59] Bent sums of rooms by tables, and bends of parts."""

import itertools
import random
import unittest

from stringrooms import bentrooms, fields
from stringrooms.apart import alike
from stringrooms.bending import bends
from stringrooms.rooms import check_room, left_room, part_room, parts_room, string_room, sub_room, sum_room
from stringrooms.rounds import begun_at, turned_round
from tests import naive, naive_bends, naive_rooms
from tests.naive import CHAINED, DOUBLE, LINE, LINE_NOUGHT, LOOP, POINT, PRIMES, TAILED, raised


def drawn_rooms(seed, many, most=5, units=8):
    rng = random.Random(seed)
    for plan in naive.plans_for(seed, many, most) + [DOUBLE, TAILED, CHAINED] * 3:
        prime = rng.choice(PRIMES)
        rooms = []
        for _ in range(2):
            parts = naive_rooms.drawn_parts(rng, plan, prime, units, 3, letters=4)
            room = parts_room(plan, prime, parts)
            rooms.append(naive_rooms.other_units(rng, plan, prime, room)[0] if rng.random() < 0.5 else room)
        yield rng, plan, prime, rooms[0], rooms[1]


class Numbers(unittest.TestCase):
    def test_by_hand(self):
        one = [string_room(LINE, (p, ())) for p in range(3)]
        self.assertEqual(bentrooms.bent_number(LINE, 2, one[0], one[1]), 1)
        self.assertEqual(bentrooms.bent_number(LINE, 2, one[1], one[0]), 0)
        self.assertEqual(bentrooms.bent_basis(LINE, 7, one[0], one[1]), ((((1,),), ()),))
        self.assertEqual(bentrooms.bent_basis(POINT, 7, ((2,), ()), ((3,), ())), ())
        self.assertEqual(bentrooms.bent_number(POINT, 7, ((2,), ()), ((3,), ())), 0)
        # The nought asks the loop's number to be nothing twice over; modulo 2 it is so by itself.
        room = string_room(LOOP, (0, (0,)))
        for prime in PRIMES:
            self.assertEqual(bentrooms.bent_number(LOOP, prime, room, room), 0)
            self.assertEqual(bentrooms.bent_number(LOOP, prime, ((1,), (((0,),),)), ((1,), (((0,),),))), 1)

    def test_by_unknowns_and_equations(self):
        met = {}
        for rng, plan, prime, room, other in drawn_rooms(220, 150):
            told = bentrooms.bent_number(plan, prime, room, other)
            self.assertEqual(told, naive_bends.bend_number(plan, prime, room, other))
            basis = bentrooms.bent_basis(plan, prime, room, other)
            self.assertEqual(len(basis), told)
            changes = naive_bends.changed_bends(plan, prime, room, other)
            rows = [naive_bends.bend_row(bend) for bend in basis]
            self.assertEqual(naive_rooms.rank(prime, changes + rows), naive_rooms.rank(prime, changes) + told)
            equations = naive_bends.bend_equations(plan, prime, room, other)
            for bend, row in zip(basis, rows):
                self.assertEqual(naive_bends.bend_of(plan, room, other, row), bend)
                self.assertFalse(any(sum(a * b for a, b in zip(line, row)) % prime for line in equations))
            met[min(told, 3)] = met.get(min(told, 3), 0) + 1
        self.assertEqual(set(met), {0, 1, 2, 3})

    def test_basis_out_of_the_reduced_one(self):
        met = 0
        for rng, plan, prime, room, other in drawn_rooms(221, 900, 4, 6):
            places = naive_bends.bend_places(plan, room, other)
            if prime ** len(places) > 4000:
                continue
            equations = naive_bends.bend_equations(plan, prime, room, other)
            every = [row for row in itertools.product(range(prime), repeat=len(places))
                     if not any(sum(a * b for a, b in zip(line, row)) % prime for line in equations)]
            kept = naive_bends.changed_bends(plan, prime, room, other)
            told = []
            for row in fields.reduced(every, prime):
                if naive_rooms.rank(prime, kept + [row]) > naive_rooms.rank(prime, kept):
                    kept.append(row)
                    told.append(naive_bends.bend_of(plan, room, other, row))
            self.assertEqual(bentrooms.bent_basis(plan, prime, room, other), tuple(told))
            met += len(told) > 1
        self.assertGreater(met, 5)

    def test_150_numbers_and_151(self):
        arrow = (2, ((0, 1),), ())
        zero = tuple((0,) * 10 for _ in range(15))
        fits = ((15, 0), (tuple(() for _ in range(15)),)), ((0, 10), ((),))
        self.assertEqual(bentrooms.bent_number(arrow, 3, *fits), 150)
        self.assertEqual(len(bentrooms.bent_basis(arrow, 3, *fits)), 150)
        self.assertEqual(bentrooms.bent_basis(arrow, 3, *fits)[0], (((1,) + (0,) * 9,) + zero[1:],))
        two = (4, ((0, 1), (2, 3)), ())
        wide = ((15, 0, 1, 0), (((),) * 15, ((),))), ((0, 10, 0, 1), ((), ()))
        for call in (bentrooms.bent_number, bentrooms.bent_basis):
            self.assertEqual(raised(call, two, 3, *wide), ("TooGreat", 150))
            # Counted by arrows, not by points: here no point has units in both rooms.
            self.assertEqual(raised(call, arrow, 3, ((16, 0), (((),) * 16,)), fits[1]), ("TooGreat", 150))

    def test_no_arrows_and_no_units(self):
        for plan in (POINT, naive.TWELVE):
            room = ((3,) + (0,) * (plan[0] - 1), ())
            self.assertEqual(bentrooms.bent_number(plan, 2, room, room), 0)
            self.assertEqual(bentrooms.bent_basis(plan, 2, room, room), ())
        empty = ((0, 0, 0), ((), ()))
        self.assertEqual(bentrooms.bent_number(LINE, 2, empty, string_room(LINE, (0, (0,)))), 0)


class BentRooms(unittest.TestCase):
    def test_by_hand(self):
        one = [string_room(LINE_NOUGHT, (p, ())) for p in range(3)]
        self.assertEqual(bentrooms.bent_room(LINE_NOUGHT, 5, one[0], one[1], (((3,),), ())), ((1, 1, 0), (((3,),), ((),))))
        two = ((0, 2, 0), ((), ((), ())))
        self.assertEqual(bentrooms.bent_room(LINE_NOUGHT, 5, one[0], two, (((3, 4),), ())),
                         ((1, 2, 0), (((3, 4),), ((), ()))))
        self.assertEqual(bentrooms.bent_room(POINT, 5, ((2,), ()), ((1,), ()), ()), ((3,), ()))
        loop = ((1,), (((0,),),))
        self.assertEqual(bentrooms.bent_room(LOOP, 5, loop, loop, (((2,),),)), ((2,), (((0, 0), (2, 0)),)))

    def test_units_inside_come_first(self):
        met = 0
        for rng, plan, prime, room, other in drawn_rooms(222, 600):
            basis = bentrooms.bent_basis(plan, prime, room, other)
            numbers = [rng.randrange(prime) for _ in basis]
            row = [0] * len(naive_bends.bend_places(plan, room, other))
            made = naive_bends.changed_bends(plan, prime, room, other)
            for some, lot in ((basis, numbers), (made, [rng.randrange(prime) for _ in made])):
                for one, number in zip(some, lot):
                    one = naive_bends.bend_row(one) if lot is numbers else one
                    row = [(a + number * b) % prime for a, b in zip(row, one)]
            bend = naive_bends.bend_of(plan, room, other, row)
            told = bentrooms.bent_room(plan, prime, room, other, bend)
            self.assertIs(check_room(plan, prime, told), told)
            inside = tuple(tuple(unit + (0,) * room[0][p] for unit in naive_rooms.eye(other[0][p]))
                           for p in range(plan[0]))
            self.assertEqual(sub_room(plan, prime, told, inside), other)
            self.assertEqual(left_room(plan, prime, told, inside), room)
            if sum(told[0]) <= 16:
                both = sum_room(plan, (other, room))
                self.assertIs(alike(plan, prime, told, both), not any(numbers))
                met += any(numbers)
        self.assertGreater(met, 30)

    def test_wrong_bends(self):
        room, other = string_room(LINE_NOUGHT, (0, (0,))), string_room(LINE_NOUGHT, (1, (1,)))
        good = (((0,),), ((0,),))
        self.assertEqual(check_room(LINE_NOUGHT, 3, bentrooms.bent_room(LINE_NOUGHT, 3, room, other, good))[0], (1, 2, 1))

        def told(bend, prime=3):
            return raised(bentrooms.bent_room, LINE_NOUGHT, prime, room, other, bend)
        # The nought asks both numbers together to be nothing.
        for one, more in itertools.product(range(3), repeat=2):
            bend = (((one,),), ((more,),))
            self.assertEqual(told(bend)[0], "NotMap" if (one + more) % 3 else "nothing raised")
        self.assertEqual(told((((1,),), ((1,),))), ("NotMap", -1))
        for value in naive.ODD_VALUES + (good[:1], good + ((),), list(good)):
            self.assertEqual(told(value)[:2], ("NotMap", 0), value)
        for table in naive.ODD_VALUES + (((0,), (0,)), ((0, 0),), ([0],), ((3,),), ((-1,),), ((True,),), ((None,),)):
            self.assertEqual(told((table, ((0,),))), ("NotMap", 0), table)
            self.assertEqual(told((((0,),), table)), ("NotMap", 1), table)
            self.assertEqual(told((((2,),), table)), ("NotMap", 1), table)
            self.assertEqual(told((table, table)), ("NotMap", 0), table)
        self.assertEqual(told((((2,),), ((1,),)), 2), ("NotMap", 0))

    def test_wrong_bends_without_arrows(self):
        room = ((1,), ())
        for value in naive.ODD_VALUES:
            if value != () or isinstance(value, list):
                self.assertEqual(raised(bentrooms.bent_room, POINT, 2, room, room, value), ("NotMap", -1), value)
        self.assertEqual(bentrooms.bent_room(POINT, 2, room, room, ()), ((2,), ()))

    def test_rooms_of_more_than_40_units(self):
        room = ((40,), ())
        self.assertEqual(bentrooms.bent_room(POINT, 2, room, room, ()), ((80,), ()))


class Parts(unittest.TestCase):
    def test_by_hand(self):
        band = ("band", (-2, 0), (1,))
        self.assertEqual(bentrooms.band_bends(DOUBLE, 3, band, band), 1)
        self.assertEqual(bentrooms.band_bends(DOUBLE, 3, band, ("band", (-2, 0), (2,))), 0)
        self.assertEqual(bentrooms.band_bends(DOUBLE, 3, band, ("string", (1, ()))), 1)
        self.assertEqual(bentrooms.band_bends(DOUBLE, 3, ("string", (1, ())), band), 0)
        self.assertEqual(bentrooms.band_bends(DOUBLE, 3, ("string", (0, ())), band), 1)

    def test_against_tables(self):
        rng = random.Random(223)
        met = {}
        for plan in naive.plans_for(223, 150, 5) + [DOUBLE, TAILED, CHAINED] * 10:
            prime = rng.choice(PRIMES)
            parts = naive_rooms.drawn_parts(rng, plan, prime, 24, 4, letters=5)
            for one, other in itertools.product(parts, repeat=2):
                told = bentrooms.band_bends(plan, prime, one, other)
                rooms = part_room(plan, prime, one), part_room(plan, prime, other)
                if len(naive_bends.bend_places(plan, *rooms)) <= 80:
                    self.assertEqual(told, naive_bends.bend_number(plan, prime, *rooms), (plan, prime, one, other))
                    kind = (one[0], other[0], told > 0)
                    met[kind] = met.get(kind, 0) + 1
                if one[0] == other[0] == "string":
                    self.assertEqual(told, bends(plan, one[1], other[1]))
                if one[0] == "band":
                    poly = one[2]
                    place = rng.randrange(len(one[1]))
                    self.assertEqual(bentrooms.band_bends(plan, prime, ("band", begun_at(one[1], place), poly), other), told)
                    about = ("band", turned_round(one[1]), fields.undone(prime, poly))
                    self.assertEqual(bentrooms.band_bends(plan, prime, about, other), told)
        self.assertEqual(len(met), 8, met)

    def test_wrong_polynomials(self):
        string = ("string", (0, ()))
        for poly in ((0,), (0, 0), (2, 0), (0, 1)):
            self.assertEqual(fields.factors(3, poly) == (((0,), len(poly)),) or len(fields.factors(3, poly)) > 1, True)
            bad = ("band", (-2, 0), poly)
            for pair in ((bad, string), (string, bad), (bad, bad)):
                self.assertEqual(raised(bentrooms.band_bends, DOUBLE, 3, *pair), ("NotPoly",))


if __name__ == "__main__":
    unittest.main()
