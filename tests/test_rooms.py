"""[5], [6], [7], [30], [31], [32] Rooms."""

import random
import unittest

from stringrooms import fields, rooms
from stringrooms.plans import turned_plan
from tests import naive, naive_rooms
from tests.naive import DOUBLE, LINE, LINE_NOUGHT, LOOP, POINT, PRIMES, raised
from tests.naive_rooms import drawn_parts, drawn_room, mul, round_room, row_sums, walk_room


def reduced_rows(rng, prime, units):
    """Drawn reduced bases, one for each point."""
    return tuple(fields.reduced(naive_rooms.drawn_table(rng, prime, rng.randint(0, n + 1), n, 0.5), prime)
                 for n in units)


class Check(unittest.TestCase):
    def bad(self, plan, prime, value, rule):
        self.assertEqual(raised(rooms.check_room, plan, prime, value), ("NotRoom", rule), value)

    def test_form(self):
        for value in naive.ODD_VALUES:
            self.bad(DOUBLE, 3, value, "form")
        for value in (((0, 0), ((), ()), ()), ((0, 0),), [(0, 0), ((), ())], ([0, 0], ((), ())), ((0, 0), [(), ()]),
                      ((0,), ((), ())), ((0, 0, 0), ((), ())), ((0, 0), ((),)), ((0, 0), ((), (), ())), ((None,), 3),
                      ("00", ((), ())), ((0, 0), "()"), ((-1,), ((), ()))):
            self.bad(DOUBLE, 3, value, "form")

    def test_units(self):
        for units in ((-1, 0), (0, -1), (True, 0), (0, None), ("0", 0), (0, 1.0), (41, 0), (20, 21), (10 ** 30, 0),
                      (0, (0,))):
            self.bad(DOUBLE, 3, (units, ((), ())), "units")
            self.bad(DOUBLE, 3, (units, (None, None)), "units")
        forty = ((40, 0), (((),) * 40,) * 2)
        self.assertIs(rooms.check_room(DOUBLE, 3, forty), forty)
        self.bad(DOUBLE, 3, ((40, 1), (((0,),) * 40,) * 2), "units")
        twenty = (((0,) * 20,) * 20,) * 2
        self.assertTrue(rooms.check_room(DOUBLE, 2, ((20, 20), twenty)))
        self.bad(DOUBLE, 3, ((20, 21), twenty), "units")

    def test_tables(self):
        good = ((1, 2), (((0, 2),), ((1, 1),)))
        self.assertIs(rooms.check_room(DOUBLE, 3, good), good)
        for bad in (None, True, (), [(0, 2)], ((0,),), ((0, 1, 2),), ((0, 1), (0, 1)), ([0, 1],), ((0, 3),), ((-1, 0),),
                    ((True, 0),), ((0, None),), (("0", 0),), ((0, 1.0),), (0, 1), (None,), "01"):
            self.bad(DOUBLE, 3, ((1, 2), (bad, ((1, 1),))), "tables")
            self.bad(DOUBLE, 3, ((1, 2), (((1, 1),), bad)), "tables")
        self.bad(DOUBLE, 2, good, "tables")
        self.assertTrue(rooms.check_room(DOUBLE, 3, ((0, 2), ((), ()))))
        self.assertTrue(rooms.check_room(DOUBLE, 3, ((2, 0), (((), ()), ((), ())))))
        self.bad(DOUBLE, 3, ((2, 0), (((), ()), ())), "tables")
        self.bad(DOUBLE, 3, ((0, 2), ((), ((0, 0),))), "tables")

    def test_noughts(self):
        room = ((1, 1, 1), (((1,),), ((1,),)))
        self.assertIs(rooms.check_room(LINE, 5, room), room)
        self.bad(LINE_NOUGHT, 5, room, "noughts")
        self.assertTrue(rooms.check_room(LINE_NOUGHT, 5, ((1, 2, 1), (((1, 2),), ((1,), (2,))))))
        self.bad(LINE_NOUGHT, 3, ((1, 2, 1), (((1, 1),), ((1,), (1,)))), "noughts")
        self.assertTrue(rooms.check_room(LINE_NOUGHT, 2, ((1, 2, 1), (((1, 1),), ((1,), (1,))))))
        self.bad(LOOP, 7, ((1,), (((1,),),)), "noughts")
        self.assertTrue(rooms.check_room(LOOP, 7, ((2,), (((0, 1), (0, 0)),))))
        self.bad(LINE_NOUGHT, 3, ((1, 1, 1), (((1,),), ((3,),))), "tables")

    def test_drawn(self):
        rng = random.Random(100)
        for plan in naive.plans_for(100, 60, 4):
            prime = rng.choice(PRIMES)
            room = drawn_room(rng, plan, prime)
            self.assertIs(rooms.check_room(plan, prime, room), room)
            self.assertIs(rooms.check_room(plan, prime, rooms.empty_room(plan)) is not None, True)


class Told(unittest.TestCase):
    def test_empty_room(self):
        self.assertEqual(rooms.empty_room(DOUBLE), ((0, 0), ((), ())))
        self.assertEqual(rooms.empty_room(POINT), ((0,), ()))

    def test_by_hand(self):
        walk = (1, (-1, 1, -1, 1))
        self.assertEqual(rooms.place_units(DOUBLE, walk), (0, 0, 1, 1, 2))
        self.assertEqual(rooms.string_room(DOUBLE, walk),
                         ((2, 3), (((1, 0, 0), (0, 1, 0)), ((0, 1, 0), (0, 0, 1)))))
        self.assertEqual(rooms.string_room(LOOP, (0, (0,))), ((2,), (((0, 1), (0, 0)),)))
        self.assertEqual(rooms.string_room(LOOP, (0, (-1,))), ((2,), (((0, 0), (1, 0)),)))
        self.assertEqual(rooms.string_room(POINT, (0, ())), ((1,), ()))
        # The last letter is against: it has the undone table.
        self.assertEqual(rooms.band_room(DOUBLE, 5, (0, -2), (1, 2)),
                         ((2, 2), (((1, 0), (0, 1)), ((3, 4), (1, 0)))))
        self.assertEqual(rooms.band_room(DOUBLE, 5, (-2, 0), (1, 2)),
                         ((2, 2), (((0, 1), (4, 3)), ((1, 0), (0, 1)))))
        self.assertEqual(rooms.band_room(DOUBLE, 3, (-2, 0), (1,)), ((1, 1), (((2,),), ((1,),))))

    def test_against_the_definition(self):
        rng = random.Random(101)
        bands = 0
        for plan in naive.plans_for(101, 150, 5):
            prime = rng.choice(PRIMES)
            walk = naive.drawn_walk(rng, plan, 12)
            self.assertEqual(rooms.string_room(plan, walk), walk_room(plan, walk))
            points = naive.points(plan, walk)
            self.assertEqual(rooms.place_units(plan, walk), tuple(points[:k].count(p) for k, p in enumerate(points)))
            self.assertEqual(rooms.part_room(plan, prime, ("string", walk)), walk_room(plan, walk))
            row = naive.drawn_round(rng, plan, 8)
            if row:
                bands += 1
                poly = (rng.randrange(1, prime),) + tuple(rng.randrange(prime) for _ in range(rng.randint(0, 2)))
                told = rooms.band_room(plan, prime, row, poly)
                self.assertEqual(told, round_room(plan, prime, row, poly))
                self.assertEqual(rooms.part_room(plan, prime, ("band", row, poly)), told)
                self.assertIs(rooms.check_room(plan, prime, told), told)
                # Going round once leads as the polynomial's table does.
                point = naive.ends(plan, row[0])[0]
                first = [0] * told[0][point]
                first[0] = 1
                here = tuple(first)
                for x in row:
                    if x >= 0:
                        here = mul(prime, (here,), told[1][x], told[0][plan[1][x][1]])[0]
                    else:
                        table = told[1][-1 - x]
                        places = range(len(table))
                        found = [u for u in (tuple(int(k == j) * c for j in places) for k in places
                                             for c in range(1, prime))
                                 if mul(prime, (u,), table, len(here))[0] == here]
                        if not found:
                            here = None
                            break
                        here = found[0]
                if here is not None and len(poly) > 1:
                    self.assertEqual(here[1], 1)
        self.assertGreater(bands, 20)

    def test_sums(self):
        self.assertEqual(rooms.sum_room(DOUBLE, ()), rooms.empty_room(DOUBLE))
        self.assertEqual(rooms.parts_room(DOUBLE, 3, ()), rooms.empty_room(DOUBLE))
        rng = random.Random(102)
        for plan in naive.plans_for(102, 80, 4):
            prime = rng.choice(PRIMES)
            several = tuple(drawn_room(rng, plan, prime, 2) for _ in range(rng.randint(0, 3)))
            told = rooms.sum_room(plan, several)
            self.assertEqual(told, naive_rooms.sum_of(plan, several))
            rooms.check_room(plan, prime, told)
            parts = drawn_parts(rng, plan, prime, 30)
            expected = naive_rooms.sum_of(plan, [naive_rooms.part(plan, prime, part) for part in parts])
            self.assertEqual(rooms.parts_room(plan, prime, parts), expected)

    def test_forty_units(self):
        long = (0, (0, -2) * 20)
        great = ("TooGreat", 40)
        self.assertEqual(sum(rooms.string_room(DOUBLE, (0, long[1][:39]))[0]), 40)
        self.assertEqual(raised(rooms.string_room, DOUBLE, long), great)
        self.assertEqual(raised(rooms.part_room, DOUBLE, 2, ("string", long)), great)
        self.assertEqual(raised(rooms.parts_room, DOUBLE, 2, (("string", long),)), great)
        self.assertEqual(sum(rooms.band_room(DOUBLE, 2, (0, -2), (1,) * 12)[0]), 24)
        plan = (5, ((0, 1), (1, 2), (2, 3), (0, 4), (4, 3)), ())
        row = (0, 1, 2, -5, -4)
        self.assertEqual(sum(rooms.band_room(plan, 3, row, (1,) * 8)[0]), 40)
        self.assertEqual(raised(rooms.band_room, plan, 3, row, (1,) * 9), great)
        self.assertEqual(raised(rooms.part_room, plan, 3, ("band", row, (1,) * 9)), great)
        twenty = rooms.string_room(DOUBLE, (0, long[1][:19]))
        self.assertEqual(sum(rooms.sum_room(DOUBLE, (twenty, twenty))[0]), 40)
        self.assertEqual(raised(rooms.sum_room, DOUBLE, (twenty, twenty, rooms.string_room(DOUBLE, (0, ())))), great)
        part = ("string", (0, long[1][:19]))
        self.assertEqual(rooms.parts_room(DOUBLE, 2, (part, part)), rooms.sum_room(DOUBLE, (twenty, twenty)))
        self.assertEqual(raised(rooms.parts_room, DOUBLE, 2, (part, part, ("string", (1, ())))), great)

    def test_way_table(self):
        rng = random.Random(103)
        for plan in naive.plans_for(103, 60, 4):
            prime = rng.choice(PRIMES)
            room = drawn_room(rng, plan, prime)
            for point in range(plan[0]):
                self.assertEqual(rooms.way_table(plan, prime, room, point, ()), naive_rooms.eye(room[0][point]))
                row, table, here = (), naive_rooms.eye(room[0][point]), point
                while True:
                    behind = [a for a in range(len(plan[1])) if plan[1][a][0] == here
                              and (not row or (row[-1], a) not in plan[2])]
                    if not behind:
                        break
                    row += (rng.choice(behind),)
                    here = plan[1][row[-1]][1]
                    table = mul(prime, table, room[1][row[-1]], room[0][here])
                    self.assertEqual(rooms.way_table(plan, prime, room, point, row), table)


class Changed(unittest.TestCase):
    def test_changed(self):
        rng = random.Random(104)
        for plan in naive.plans_for(104, 60, 4):
            prime = rng.choice(PRIMES)
            room = drawn_room(rng, plan, prime)
            expected, told = naive_rooms.other_units(rng, plan, prime, room)
            self.assertEqual(rooms.changed(plan, prime, room, told), expected)
            rooms.check_room(plan, prime, expected)
            plain = tuple(naive_rooms.eye(n) for n in room[0])
            self.assertEqual(rooms.changed(plan, prime, room, plain), room)

    def test_wrong_units(self):
        room = ((1, 2), (((0, 1),), ((1, 1),)))
        good = (((2,),), ((1, 1), (0, 1)))
        self.assertEqual(rooms.changed(DOUBLE, 3, room, good), ((1, 2), (((0, 2),), ((2, 0),))))
        for bad in (None, True, (), good[:1], good + ((),), list(good), "ab", {}):
            self.assertEqual(raised(rooms.changed, DOUBLE, 3, room, bad), ("NotMap", -1), bad)
        for bad in (None, False, (), ((0,),), ((1,), (1,)), ((1, 1),), ((3,),), ((-1,),), ((True,),), [[1]], ([1],),
                    (1,), ((1.0,),)):
            self.assertEqual(raised(rooms.changed, DOUBLE, 3, room, (bad, good[1])), ("NotMap", 0), bad)
            self.assertEqual(raised(rooms.changed, DOUBLE, 3, room, (bad, bad)), ("NotMap", 0), bad)
        for bad in (None, ((1, 1), (1, 1)), ((0, 0), (0, 1)), ((1, 2), (2, 1)), ((1, 1),), ((1,), (1,)), ((1, 3), (0, 1))):
            self.assertEqual(raised(rooms.changed, DOUBLE, 3, room, (good[0], bad)), ("NotMap", 1), bad)
        empty = rooms.empty_room(DOUBLE)
        self.assertEqual(rooms.changed(DOUBLE, 3, empty, ((), ())), empty)
        self.assertEqual(raised(rooms.changed, DOUBLE, 3, empty, ((), ((),))), ("NotMap", 1))

    def test_dual_room(self):
        room = ((1, 2), (((0, 1),), ((1, 1),)))
        self.assertEqual(rooms.dual_room(DOUBLE, 3, room), ((1, 2), (((0,), (1,)), ((1,), (1,)))))
        rng = random.Random(105)
        for plan in naive.plans_for(105, 60, 4):
            prime = rng.choice(PRIMES)
            room = drawn_room(rng, plan, prime)
            told = rooms.dual_room(plan, prime, room)
            rooms.check_room(turned_plan(plan), prime, told)
            self.assertEqual(rooms.dual_room(turned_plan(plan), prime, told), room)
            for table, about in zip(room[1], told[1]):
                self.assertTrue(all(about[j][i] == x for i, row in enumerate(table) for j, x in enumerate(row)))


class SubRooms(unittest.TestCase):
    def closed(self, plan, prime, room, told):
        """Arrows that lead a row out of the sums of rows."""
        out = []
        for a, (p, q) in enumerate(plan[1]):
            lot = row_sums(prime, told[q], room[0][q])
            images = mul(prime, told[p], room[1][a], room[0][q])
            if any(image not in lot for image in images):
                out.append(a)
        return out

    def test_led(self):
        room = walk_room(LINE, (0, (0, 1)))
        self.assertEqual(rooms.led(LINE, 3, room, (((2,),), (), ())), (((1,),), ((1,),), ((1,),)))
        self.assertEqual(rooms.led(LINE, 3, room, ((), ((1,), (2,)), ())), ((), ((1,),), ((1,),)))
        self.assertEqual(rooms.led(LINE, 3, room, ((), (), ())), ((), (), ()))
        rng = random.Random(106)
        for plan in naive.plans_for(106, 80, 4):
            prime = rng.choice((2, 3))
            room = drawn_room(rng, plan, prime)
            told = tuple(naive_rooms.drawn_table(rng, prime, rng.randint(0, 1), n) for n in room[0])
            lots = [row_sums(prime, rows, n) for rows, n in zip(told, room[0])]
            while True:
                more = [set(lot) for lot in lots]
                for a, (p, q) in enumerate(plan[1]):
                    for row in lots[p]:
                        image = mul(prime, (row,), room[1][a], room[0][q])[0]
                        more[q] |= {tuple((x + k * y) % prime for x, y in zip(one, image))
                                    for one in more[q] for k in range(prime)}
                if more == lots:
                    break
                lots = more
            found = rooms.led(plan, prime, room, told)
            for rows, lot, n in zip(found, lots, room[0]):
                self.assertEqual(fields.reduced(rows, prime), rows)
                self.assertEqual(row_sums(prime, rows, n), lot)
            self.assertIs(rooms.is_closed(plan, prime, room, found), True)

    def test_closed_sub_and_left(self):
        rng = random.Random(107)
        seen = {True: 0, False: 0}
        for plan in [plan for plan in naive.plans_for(107, 500, 3) if plan[1]]:
            prime = rng.choice((2, 3))
            room = drawn_room(rng, plan, prime)
            told = reduced_rows(rng, prime, room[0])
            if rng.random() < 0.3:
                told = rooms.led(plan, prime, room, tuple(rows[:1] for rows in told))
            out = self.closed(plan, prime, room, told)
            seen[not out] += 1
            self.assertIs(rooms.is_closed(plan, prime, room, told), not out)
            if out:
                self.assertEqual(raised(rooms.sub_room, plan, prime, room, told), ("NotMap", out[0]))
                self.assertEqual(raised(rooms.left_room, plan, prime, room, told), ("NotMap", out[0]))
                continue
            sub = rooms.check_room(plan, prime, rooms.sub_room(plan, prime, room, told))
            left = rooms.check_room(plan, prime, rooms.left_room(plan, prime, room, told))
            self.assertEqual(sub[0], tuple(len(rows) for rows in told))
            # The rows of told are a map from sub to room; rest and free places one from room to left.
            self.assertTrue(naive_rooms.is_hom(plan, prime, sub, room, told))
            onto = []
            for rows, n in zip(told, room[0]):
                leading = [next(k for k, x in enumerate(row) if x) for row in rows]
                free = [k for k in range(n) if k not in leading]
                table = []
                for k in range(n):
                    rest = [int(j == k) for j in range(n)]
                    for row, place in zip(rows, leading):
                        rest = [(x - rest[place] * y) % prime for x, y in zip(rest, row)]
                    table.append(tuple(rest[j] for j in free))
                onto.append(tuple(table))
            self.assertEqual(left[0], tuple(n - len(rows) for rows, n in zip(told, room[0])))
            self.assertTrue(naive_rooms.is_hom(plan, prime, room, left, tuple(onto)))
        self.assertGreater(min(seen.values()), 25)

    def test_is_closed_for_any_rows(self):
        room = ((1, 2), (((0, 1),), ((1, 1),)))
        self.assertIs(rooms.is_closed(DOUBLE, 3, room, (((1,),), ((2, 2), (0, 2), (1, 0)))), True)
        self.assertIs(rooms.is_closed(DOUBLE, 3, room, (((1,), (2,)), ((1, 1),))), False)
        self.assertEqual(raised(rooms.sub_room, DOUBLE, 3, room, (((1,),), ((1, 1),))), ("NotMap", 0))
        self.assertEqual(raised(rooms.left_room, DOUBLE, 3, room, (((1,),), ((0, 1),))), ("NotMap", 1))

    def test_whole_and_nothing(self):
        room = rooms.band_room(DOUBLE, 3, (0, -2), (1, 1))
        every = tuple(naive_rooms.eye(n) for n in room[0])
        self.assertEqual(rooms.sub_room(DOUBLE, 3, room, every), room)
        self.assertEqual(rooms.left_room(DOUBLE, 3, room, every), rooms.empty_room(DOUBLE))
        self.assertEqual(rooms.sub_room(DOUBLE, 3, room, ((), ())), rooms.empty_room(DOUBLE))
        self.assertEqual(rooms.left_room(DOUBLE, 3, room, ((), ())), room)

    def test_common_and_reached(self):
        room = walk_room(naive.FORK, (0, (0, -2)))
        self.assertEqual(rooms.common(naive.FORK, 3, room), ((), ((1,),), ()))
        self.assertEqual(rooms.reached(naive.FORK, 3, room), ((), ((1,),), ()))
        self.assertEqual(rooms.common(POINT, 3, ((2,), ())), (((1, 0), (0, 1)),))
        self.assertEqual(rooms.reached(POINT, 3, ((2,), ())), ((),))
        rng = random.Random(108)
        for plan in naive.plans_for(108, 80, 4):
            prime = rng.choice((2, 3))
            room = drawn_room(rng, plan, prime)
            common, reached = rooms.common(plan, prime, room), rooms.reached(plan, prime, room)
            for p, n in enumerate(room[0]):
                nothing = {row for row in naive_rooms.all_rows(prime, n)
                           if not any(any(mul(prime, (row,), room[1][a], room[0][q])[0])
                                      for a, (s, q) in enumerate(plan[1]) if s == p)}
                self.assertEqual(row_sums(prime, common[p], n), nothing)
                rows = [row for a, (_, q) in enumerate(plan[1]) if q == p for row in room[1][a]]
                self.assertEqual(row_sums(prime, reached[p], n), row_sums(prime, rows, n))
                self.assertEqual(fields.reduced(common[p], prime), common[p])
                self.assertEqual(fields.reduced(reached[p], prime), reached[p])
            self.assertTrue(rooms.is_closed(plan, prime, room, common))
            self.assertTrue(rooms.is_closed(plan, prime, room, reached))


if __name__ == "__main__":
    unittest.main()
