"""[4], [21], [22] Rounds and bands."""

import random
import unittest

from stringrooms import rounds
from stringrooms.counting import band_number
from stringrooms.forms import beside
from stringrooms.walks import check_walk, string_of
from tests import naive
from tests.naive import CHAINED, DOUBLE, FULL, LOOP, POINT, TAILED, raised


# Plans without bands that have 4109 and 981 strings.
MANY = (12, ((1, 6), (10, 8), (7, 5), (10, 5), (8, 6), (11, 9), (1, 11), (3, 0), (0, 1), (8, 2), (3, 8), (5, 7),
             (9, 1), (0, 2), (5, 4), (6, 9), (7, 7), (6, 0)),
        ((0, 15), (1, 4), (2, 11), (3, 14), (4, 17), (6, 5), (7, 13), (8, 0), (10, 9), (11, 2), (12, 6), (15, 12),
         (16, 16), (17, 8)))
SOME = (12, ((7, 1), (2, 0), (9, 2), (2, 8), (1, 3), (6, 0), (10, 9), (6, 5), (10, 6), (5, 3), (1, 7), (5, 11),
             (0, 11), (4, 8), (4, 4), (0, 1), (11, 9), (3, 10)),
        ((0, 10), (1, 15), (2, 3), (5, 12), (7, 11), (8, 5), (9, 17), (10, 0), (11, 16), (14, 14), (15, 4), (16, 2),
         (17, 6)))


def naive_bands(plan, length):
    return tuple(sorted({naive.band(row) for row in naive.rounds(plan, length)}))


def two_rounds_share(plan):
    """Whether some letter stands in two unlike rounds: searched for among short closed rows without repetition."""
    many = 2 * len(plan[1])
    for x in naive.letters_of(plan):
        found = []
        rows = [(x,)]
        for _ in range(many):
            found += [row for row in rows if naive.follows(plan, row[-1], x)]
            if len(found) > 1:
                return True
            rows = [row + (y,) for row in rows for y in naive.letters_of(plan)
                    if naive.follows(plan, row[-1], y) and y not in row]
    return False


class Check(unittest.TestCase):
    def bad(self, plan, value, place):
        self.assertEqual(raised(rounds.check_round, plan, value), ("NotRound", place), value)

    def test_form(self):
        for value in naive.ODD_VALUES:
            self.bad(POINT, value, -1)
        for value in ((), (0, 2), (0, -3), (True, -2), (0, None), (0, "1"), [0, -2], (0, (1,)), (0, -2.0)):
            self.bad(DOUBLE, value, -1)
        self.bad(POINT, (0,), -1)
        self.bad(DOUBLE, (0, -2) * 30 + (0,), -1)
        self.bad(DOUBLE, (0, -2) * 31, -1)

    def test_places(self):
        self.assertEqual(rounds.check_round(DOUBLE, (0, -2)), (0, -2))
        self.assertEqual(rounds.check_round(DOUBLE, (-1, 1)), (-1, 1))
        self.bad(DOUBLE, (0,), 0)
        self.bad(DOUBLE, (0, -2, 0), 0)
        self.bad(DOUBLE, (0, -1), 0)
        self.bad(DOUBLE, (-1, 1, -2, 1), 2)
        self.bad(LOOP, (0,), 0)
        self.bad(LOOP, (-1,), 0)
        self.bad(CHAINED, (0, 2, 3, -5, -3, -1), 0)
        self.bad(CHAINED, (3, -5, -3, 2, 3, -5), 2)
        self.bad(CHAINED, (0, 2, 3, -5, -3, -2), 4)

    def test_lengths(self):
        self.bad(DOUBLE, (0, -2) * 2, 4)
        self.bad(DOUBLE, (0, -2) * 3, 6)
        self.bad(DOUBLE, (0, -2) * 30, 60)
        self.bad(DOUBLE, (0, -2) * 29 + (-2, -2), 58)

    def test_sixty_letters(self):
        rng = random.Random(50)
        found = None
        while found is None:
            row = naive.drawn_walk(rng, FULL, 60)[1]
            if len(row) == 60 and naive.is_round(FULL, row):
                found = row
        self.assertIs(rounds.check_round(FULL, found), found)
        self.bad(FULL, found + found[:1], -1)

    def test_against_the_definition(self):
        rng = random.Random(51)
        for plan in naive.plans_for(51, 80, 4):
            every = {row for n in range(1, 7) for row in naive.rounds(plan, n)}
            for row in every:
                self.assertIs(rounds.check_round(plan, row), row)
            for _ in range(30 if plan[1] else 0):
                row = naive.drawn_walk(rng, plan, 6)[1]
                if row and row not in every:
                    # A walk's row fails at 0 alone, or as a row written several times.
                    closes = naive.follows(plan, row[-1], row[0])
                    self.bad(plan, row, len(row) if closes else 0)


class Bands(unittest.TestCase):
    def test_by_hand(self):
        self.assertEqual(rounds.turned_round((0, -2)), (1, -1))
        self.assertEqual(rounds.begun_at((0, -2, 5), 0), (0, -2, 5))
        self.assertEqual(rounds.begun_at((0, -2, 5), 2), (5, 0, -2))
        self.assertEqual(rounds.band_of(DOUBLE, (1, -1)), (-2, 0))
        self.assertEqual(rounds.band_place(DOUBLE, (0, -2)), (1, 1))
        self.assertEqual(rounds.band_place(DOUBLE, (-2, 0)), (0, 1))
        self.assertEqual(rounds.band_place(DOUBLE, (1, -1)), (1, -1))
        self.assertEqual(rounds.band_place(DOUBLE, (-1, 1)), (0, -1))

    def test_just_one_place(self):
        rng = random.Random(52)
        met = 0
        for plan in naive.plans_for(52, 80) + [FULL]:
            row = naive.drawn_round(rng, plan, 14)
            if row is None:
                continue
            met += 1
            rounds.check_round(plan, row)
            about = tuple(-1 - x for x in row[::-1])
            self.assertEqual(rounds.turned_round(row), about)
            band = naive.band(row)
            self.assertEqual(rounds.band_of(plan, row), band)
            found = [(k, 1) for k in range(len(row)) if row[k:] + row[:k] == band]
            found += [(k, -1) for k in range(len(row)) if about[k:] + about[:k] == band]
            self.assertEqual([rounds.band_place(plan, row)], found)
            for k in range(len(row)):
                self.assertEqual(rounds.begun_at(row, k), row[k:] + row[:k])
                self.assertEqual(rounds.band_of(plan, rounds.begun_at(row, k)), band)
                self.assertEqual(rounds.band_of(plan, rounds.begun_at(about, k)), band)
        self.assertGreater(met, 15)

    def test_lists_by_hand(self):
        self.assertEqual(rounds.bands(DOUBLE, 2), ((-2, 0),))
        self.assertEqual(rounds.bands(DOUBLE, 4), ())
        self.assertEqual(rounds.bands(POINT, 60), ())
        self.assertEqual(rounds.band_list(CHAINED), ((-5, 3), (-2, 0)))
        self.assertEqual(rounds.band_list(POINT), ())
        self.assertEqual(rounds.a_band(CHAINED), (-5, 3))
        self.assertIsNone(rounds.a_band(POINT))
        self.assertIs(rounds.has_bands(DOUBLE), True)
        self.assertIs(rounds.has_bands(LOOP), False)
        self.assertEqual(rounds.longest(POINT), 0)
        self.assertEqual(rounds.longest(LOOP), 1)
        self.assertEqual(rounds.all_strings(LOOP), ((0, ()), (0, (-1,))))

    def test_shorter_ones_first(self):
        # The round by way of the points 0, 1, 2 has greater letters than the double arrow's.
        plan = (6, ((0, 1), (1, 2), (0, 2), (3, 4), (3, 4)), ())
        self.assertEqual(rounds.band_list(plan), ((-5, 3), (-3, 0, 1)))
        plan = (6, ((3, 4), (3, 4), (0, 1), (1, 2), (0, 2)), ())
        self.assertEqual(rounds.band_list(plan), ((-2, 0), (-5, 2, 3)))

    def test_against_the_definition(self):
        for plan in naive.plans_for(53, 80, 5):
            shortest = None
            for length in range(1, 8):
                told = naive_bands(plan, length)
                self.assertEqual(rounds.bands(plan, length), told)
                if told and shortest is None:
                    shortest = told[0]
            if shortest or not rounds.has_bands(plan):
                self.assertEqual(rounds.a_band(plan), shortest)

    def test_endless(self):
        told = {"endless": 0, "some": 0, "none": 0}
        for plan in naive.plans_for(54, 250, 5) + [FULL]:
            if rounds.has_bands(plan):
                self.assertEqual(raised(rounds.all_strings, plan), ("Endless",))
                self.assertEqual(raised(rounds.longest, plan), ("Endless",))
            if two_rounds_share(plan):
                told["endless"] += 1
                self.assertEqual(raised(rounds.band_list, plan), ("Endless",))
                continue
            listed = rounds.band_list(plan)
            self.assertEqual(rounds.has_bands(plan), bool(listed))
            self.assertEqual(list(listed), sorted(listed, key=lambda band: (len(band), band)))
            self.assertEqual(sum(band_number(plan, n) for n in range(1, 30)), len(listed))
            told["some" if listed else "none"] += 1
        self.assertGreater(min(told.values()), 5)

    def test_just_five_hundred(self):
        seen = {True: 0, False: 0}
        for plan in naive.drawn_plans(55, 120, 6) + [FULL]:
            for length in (6, 12, 20, 33, 60):
                many = band_number(plan, length)
                told = raised(rounds.bands, plan, length)
                if many > 500:
                    self.assertEqual(told, ("TooGreat", 500))
                else:
                    listed = told[1]
                    self.assertEqual(len(listed), many)
                    self.assertEqual(list(listed), sorted(set(listed)))
                    for band in listed[:5]:
                        self.assertEqual(naive.band(band), rounds.check_round(plan, band))
                if many > 20:
                    seen[many > 500] += 1
        self.assertGreater(min(seen.values()), 3)

    def test_five_hundred_and_one(self):
        one = (4, ((0, 0), (0, 1), (2, 0), (1, 2), (3, 1), (3, 2)), ((0, 0), (1, 3), (2, 1), (3, 2)))
        two = (4, ((0, 0), (0, 1), (2, 0), (1, 1), (1, 3), (2, 3)), ((0, 0), (1, 4), (2, 1), (3, 3)))
        three = (6, ((0, 1), (1, 2), (1, 2), (3, 1), (3, 0), (2, 0), (2, 4), (5, 3), (5, 4)),
                 ((0, 2), (1, 6), (2, 5), (3, 1), (5, 0), (7, 4)))
        plan = beside(one, two)
        self.assertEqual(band_number(plan, 18), 500)
        self.assertEqual(len(rounds.bands(plan, 18)), 500)
        plan = beside(two, three)
        self.assertEqual(band_number(plan, 18), 501)
        self.assertEqual(raised(rounds.bands, plan, 18), ("TooGreat", 500))

    def test_endless_ahead_of_too_great(self):
        self.assertEqual(raised(rounds.all_strings, FULL), ("Endless",))
        self.assertEqual(raised(rounds.band_list, FULL), ("Endless",))

    def test_all_strings(self):
        seen = {True: 0, False: 0}
        for plan in naive.plans_for(56, 150, 7) + [MANY, SOME]:
            if rounds.has_bands(plan):
                continue
            total, length, rows = plan[0], 0, [(x,) for x in naive.letters_of(plan)]
            while rows and total <= 2000:
                total, length = total + len(rows) // 2, length + 1
                rows = [row + (x,) for row in rows for x in naive.letters_of(plan) if naive.follows(plan, row[-1], x)]
            seen[total > 2000] += 1
            if total > 2000:
                self.assertEqual(raised(rounds.all_strings, plan), ("TooGreat", 2000))
                continue
            self.assertEqual(rounds.longest(plan), length)
            told = rounds.all_strings(plan)
            self.assertEqual(list(told), sorted(set(told)))
            self.assertEqual(len(told), total)
            for walk in told:
                self.assertEqual(string_of(plan, check_walk(plan, walk)), walk)
        self.assertEqual(seen[True], 1)
        self.assertEqual(len(rounds.all_strings(SOME)), 981)

    def test_round_is_a_row_of_walks(self):
        for row in ((0, -2), (-1, 1)):
            self.assertTrue(check_walk(DOUBLE, (naive.ends(DOUBLE, row[0])[0], row * 7)))
        self.assertEqual(rounds.band_list(TAILED), ((-3, 1),))


if __name__ == "__main__":
    unittest.main()
