"""[107] Lists of rooms, changes of units, changes of rooms to themselves."""

import itertools
import random
import unittest

from stringrooms import roomlists
from stringrooms.apart import parts_of_room
from stringrooms.homs import map_basis
from stringrooms.rooms import check_room, parts_room
from stringrooms.sizes import room_number
from tests import naive, naive_rooms
from tests.naive import CHAINED, DOUBLE, LINE, LINE_NOUGHT, LOOP, POINT, RING, TAILED, TWELVE, raised
from tests.test_sizes import LOOPS, SQUARE, drawn_units, sample

EMPTY = ((), ())


def room_of(plan, prime, parts):
    several = [("string", s) for s, n in parts[0] for _ in range(n)]
    return parts_room(plan, prime, tuple(several + [("band", b, f) for b, f, n in parts[1] for _ in range(n)]))


def every_room(plan, prime, units):
    """All rows of tables that make a room, by trying all."""
    cells = [units[a] * units[b] for a, b in plan[1]]
    for numbers in itertools.product(range(prime), repeat=sum(cells)):
        tables, at = [], 0
        for a, b in plan[1]:
            tables.append(tuple(numbers[at + i * units[b]:at + (i + 1) * units[b]] for i in range(units[a])))
            at += units[a] * units[b]
        if naive_rooms.is_room(plan, prime, (units, tuple(tables))):
            yield (units, tuple(tables))


def undoable(prime, many):
    return sum(naive_rooms.rank(prime, t) == many for t in naive.all_tables(prime, many, many))


class Changes(unittest.TestCase):
    def test_by_hand(self):
        self.assertEqual(roomlists.changes(2, (0,)), 1)
        self.assertEqual(roomlists.changes(2, (1, 1)), 1)
        self.assertEqual(roomlists.changes(7, (1, 0, 1)), 36)
        self.assertEqual(roomlists.changes(2, (2, 3)), 6 * 168)
        self.assertEqual(roomlists.changes(3, (2,)), 48)
        self.assertEqual(roomlists.changes(2, (10,)), 366440137299948128422802227200)

    def test_by_trying(self):
        for prime, many in ((2, 1), (2, 2), (2, 3), (3, 1), (3, 2), (5, 1), (5, 2), (7, 1), (7, 2)):
            self.assertEqual(roomlists.changes(prime, (many,)), undoable(prime, many))
            self.assertEqual(roomlists.changes(prime, (many, 0, 1)), undoable(prime, many) * (prime - 1))


class OwnChanges(unittest.TestCase):
    def test_by_hand(self):
        told = roomlists.own_changes
        self.assertEqual(told(POINT, 5, EMPTY), 1)
        self.assertEqual(told(POINT, 5, ((((0, ()), 1),), ())), 4)
        self.assertEqual(told(POINT, 2, ((((0, ()), 3),), ())), 168)
        self.assertEqual(told(LINE, 3, ((((0, ()), 1), ((1, ()), 1)), ())), 4)
        self.assertEqual(told(LOOP, 3, ((((0, (-1,)), 1),), ())), 6)
        self.assertEqual(told(DOUBLE, 5, ((), (((-2, 0), (3,), 1),))), 4)
        self.assertEqual(told(DOUBLE, 5, ((), (((-2, 0), (3,), 2),))), 480)
        # The square of x + 1, and an irreducible polynomial of degree 2: four numbers, and three of them other than 0.
        self.assertEqual(told(DOUBLE, 2, ((), (((-2, 0), (1, 0), 1),))), 2)
        self.assertEqual(told(DOUBLE, 2, ((), (((-2, 0), (1, 1), 1),))), 3)
        self.assertEqual(told(DOUBLE, 2, ((), (((-2, 0), (1, 1), 2),))), (16 - 1) * (16 - 4))

    def test_by_trying(self):
        rng = random.Random(520)
        met = 0
        for plan in naive.plans_for(521, 100, 4) + [DOUBLE, TAILED, CHAINED, LOOP] * 8:
            prime = rng.choice((2, 2, 3))
            several = naive_rooms.drawn_parts(rng, plan, prime, 6, 4, letters=3)
            room = parts_room(plan, prime, several)
            base = map_basis(plan, prime, room, room)
            if prime ** len(base) > 3000 or sum(room[0]) > 12:
                continue
            many = 0
            for numbers in itertools.product(range(prime), repeat=len(base)):
                if all(naive_rooms.rank(prime, [[sum(n * told[p][i][j] for n, told in zip(numbers, base)) % prime
                                                 for j in range(size)] for i in range(size)]) == size
                       for p, size in enumerate(room[0])):
                    many += 1
            parts = parts_of_room(plan, prime, room)
            self.assertEqual(roomlists.own_changes(plan, prime, parts), many, (plan, prime, parts))
            met += bool(parts[1]) + any(n > 1 for *_, n in parts[0] + parts[1])
        self.assertGreater(met, 15)


class Lists(unittest.TestCase):
    def test_by_hand(self):
        self.assertEqual(roomlists.room_list(POINT, 2, (0,)), (EMPTY,))
        self.assertEqual(roomlists.room_list(POINT, 2, (3,)), (((((0, ()), 3),), ()),))
        self.assertEqual(roomlists.room_list(TWELVE, 2, (0,) * 12), (EMPTY,))
        self.assertEqual(roomlists.room_list(LOOP, 2, (2,)), (((((0, ()), 2),), ()), ((((0, (-1,)), 1),), ())))
        self.assertEqual(roomlists.room_list(LINE, 3, (1, 1, 0)), (
            ((((0, ()), 1), ((1, ()), 1)), ()), ((((0, (0,)), 1),), ())))
        self.assertEqual(roomlists.room_list(DOUBLE, 3, (1, 1)), (
            ((), (((-2, 0), (1,), 1),)), ((), (((-2, 0), (2,), 1),)), ((((0, ()), 1), ((1, ()), 1)), ()),
            ((((0, (0,)), 1),), ()), ((((0, (1,)), 1),), ())))
        bands = [parts[1] for parts in roomlists.room_list(DOUBLE, 2, (2, 2)) if not parts[0]]
        self.assertEqual(bands, [(((-2, 0), (1,), 2),), (((-2, 0), (1, 0), 1),), (((-2, 0), (1, 1), 1),)])
        self.assertEqual(roomlists.room_total(POINT, 5, (3,)), 1)
        self.assertEqual(roomlists.room_total(LINE, 5, (1, 1, 1)), 25)
        self.assertEqual(roomlists.room_total(LINE_NOUGHT, 5, (1, 1, 1)), 9)
        self.assertEqual(roomlists.room_total(DOUBLE, 7, (1, 1)), 49)
        self.assertEqual(roomlists.room_total(LOOP, 3, (2,)), 9)
        self.assertEqual(roomlists.room_total(RING, 3, (0, 0, 0)), 1)

    def test_drawn(self):
        met = {"bands": 0, "great": 0}
        for rng, plan, units in sample(522, 100, 8):
            prime = rng.choice(naive.PRIMES)
            told = raised(roomlists.room_list, plan, prime, units)
            number = room_number(plan, prime, units)
            self.assertEqual(told == ("TooGreat", 500), number > 500)
            if number > 500:
                self.assertEqual(raised(roomlists.room_total, plan, prime, units), ("TooGreat", 500))
                met["great"] += 1
                continue
            self.assertEqual(len(told[1]), number)
            self.assertEqual(list(told[1]), sorted(set(told[1])))
            for parts in rng.sample(told[1], min(6, number)):
                room = room_of(plan, prime, parts)
                self.assertEqual(room[0], units)
                self.assertEqual(parts_of_room(plan, prime, room), parts)
                met["bands"] += bool(parts[1])
        self.assertGreater(met["bands"], 50, met)

    def test_each_room_of_some_lists(self):
        for plan, prime, units in ((DOUBLE, 3, (3, 3)), (DOUBLE, 2, (3, 3)), (SQUARE, 3, (2, 2, 2, 2)), (LOOPS, 2, (4, 2)),
                                   (CHAINED, 2, (2, 2, 1, 1)), (TAILED, 5, (1, 2, 2, 1))):
            told = roomlists.room_list(plan, prime, units)
            self.assertEqual(len(told), room_number(plan, prime, units))
            self.assertEqual(told, tuple(parts_of_room(plan, prime, room_of(plan, prime, parts)) for parts in told))
            self.assertGreater(len([parts for parts in told if parts[1]]), 1)

    def test_by_trying(self):
        rng = random.Random(523)
        met = 0
        for plan in naive.plans_for(524, 150, 4) + [RING, TAILED, CHAINED, DOUBLE, LOOP, LOOPS, SQUARE] * 4:
            prime, units = rng.choice((2, 2, 3)), drawn_units(rng, plan, 6)
            if prime ** sum(units[a] * units[b] for a, b in plan[1]) > 700:
                continue
            kinds, total = set(), 0
            for room in every_room(plan, prime, units):
                self.assertEqual(check_room(plan, prime, room), room)
                kinds.add(parts_of_room(plan, prime, room))
                total += 1
            self.assertEqual(roomlists.room_list(plan, prime, units), tuple(sorted(kinds)))
            self.assertEqual(roomlists.room_total(plan, prime, units), total)
            met += total > 50
        self.assertGreater(met, 10)

    def test_total_is_a_sum(self):
        for rng, plan, units in sample(525, 60, 7):
            prime = rng.choice((2, 3))
            told = raised(roomlists.room_list, plan, prime, units)
            if told[0] != "TooGreat":
                every = roomlists.changes(prime, units)
                shares = [divmod(every, roomlists.own_changes(plan, prime, parts)) for parts in told[1]]
                self.assertFalse(any(rest for _, rest in shares))
                self.assertEqual(roomlists.room_total(plan, prime, units), sum(share for share, _ in shares))
                if not plan[2]:
                    self.assertEqual(sum(share for share, _ in shares),
                                     prime ** sum(units[a] * units[b] for a, b in plan[1]))

    def test_bound(self):
        plan = (5, ((1, 4), (4, 4), (0, 3), (4, 3), (0, 2), (3, 0)), ((0, 3), (1, 1), (2, 5), (5, 4)))
        told = roomlists.room_list(plan, 5, (2, 2, 1, 3, 2))
        self.assertEqual(len(set(told)), 500)
        self.assertEqual(list(told), sorted(told))
        self.assertEqual(roomlists.room_total(plan, 5, (2, 2, 1, 3, 2)), 2632586265625)
        plan = (3, ((0, 0), (1, 2), (0, 1), (2, 0), (2, 2)), ((0, 0), (1, 3), (2, 1), (3, 2), (4, 4)))
        self.assertEqual(room_number(plan, 3, (2, 4, 4)), 501)
        for call in (roomlists.room_list, roomlists.room_total):
            self.assertEqual(raised(call, plan, 3, (2, 4, 4)), ("TooGreat", 500))
        great = 0
        for prime in naive.PRIMES:
            for units in [(n, m) for n in range(1, 6) for m in range(n, 6)] + [(15, 15)]:
                number = room_number(DOUBLE, prime, units) if units != (15, 15) else 501
                told = raised(roomlists.room_list, DOUBLE, prime, units)
                self.assertEqual(told == ("TooGreat", 500), number > 500)
                great += number > 500
        self.assertGreater(great, 8)


if __name__ == "__main__":
    unittest.main()
