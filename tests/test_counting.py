"""[23], [24] Numbers of walks, strings and bands, and how they grow."""

import random
import unittest

from stringrooms import counting, rounds
from tests import naive
from tests.naive import CHAINED, DOUBLE, FULL, LINE, LOOP, POINT, TWELVE, raised

MOST = 10 ** 18


def exact(plan, length):
    """The numbers of walks of 0, 1, .. letters, led on letter by letter."""
    numbers = [plan[0]]
    row = {x: 1 for x in naive.letters_of(plan)}
    for _ in range(length):
        numbers.append(sum(row.values()))
        later = {x: 0 for x in row}
        for x, n in row.items():
            for y in row:
                if naive.follows(plan, x, y):
                    later[y] += n
        row = later
    return numbers


def capped_power(plan, row, steps, gather=False):
    """The row of numbers of letters led on so many steps, by squaring the table; no number above 5 * MOST is exact."""
    letters = list(naive.letters_of(plan))
    table = [[int(naive.follows(plan, x, y)) for y in letters] + [int(gather)] * gather for x in letters]
    table += [[0] * len(letters) + [1]] * gather
    columns = range(len(table))
    def led(entries, lines):
        return [min(sum(a * line[k] for a, line in zip(entries, lines)), 5 * MOST) for k in columns]
    while steps:
        if steps % 2:
            row = led(row, table)
        table, steps = [led(line, table) for line in table], steps // 2
    return row


def capped(number):
    return ("TooGreat", MOST) if number > MOST else ("nothing raised", number)


class Numbers(unittest.TestCase):
    def test_by_hand(self):
        self.assertEqual(counting.walk_number(TWELVE, 0), 12)
        self.assertEqual(counting.walk_number(TWELVE, 10 ** 30), 0)
        self.assertEqual(counting.string_number(DOUBLE, 10 ** 30), 2)
        self.assertEqual(counting.walk_number(DOUBLE, 10 ** 30), 4)
        self.assertEqual(counting.string_total(LOOP, 10 ** 30), 2)
        self.assertEqual(counting.string_total(POINT, 0), 1)
        self.assertEqual(counting.string_total(DOUBLE, MOST // 2 - 1), MOST)
        self.assertEqual(raised(counting.string_total, DOUBLE, MOST // 2), ("TooGreat", MOST))
        self.assertEqual(raised(counting.string_total, DOUBLE, 10 ** 30), ("TooGreat", MOST))
        self.assertEqual(counting.string_total((3, DOUBLE[1], ()), MOST // 2 - 2), MOST - 1)
        self.assertEqual(counting.between(DOUBLE, 0, -2, 10 ** 30), 1)
        self.assertEqual(counting.between(DOUBLE, 0, -2, 10 ** 30 - 1), 0)
        self.assertEqual(counting.between(DOUBLE, 0, 0, 1), 1)
        self.assertEqual(counting.between(LINE, 0, 1, 1), 0)

    def test_bounds_on_both_sides(self):
        # Walks from the one band to the other one: as many as there are steps, nearly.
        told = exact(CHAINED, 40)
        slope = told[40] - told[38]
        self.assertEqual(told[38] - told[36], slope)
        length = 40 + 2 * ((MOST - told[40]) // slope)
        number = told[40] + slope * (length - 40) // 2
        self.assertTrue(MOST - slope < number <= MOST)
        self.assertEqual(counting.walk_number(CHAINED, length), number)
        self.assertEqual(raised(counting.walk_number, CHAINED, length + 2), ("TooGreat", MOST))
        self.assertEqual(counting.string_number(CHAINED, length + 2), (number + slope) // 2)
        length = 40 + 2 * ((2 * MOST - told[40]) // slope)
        self.assertLessEqual(counting.string_number(CHAINED, length), MOST)
        self.assertEqual(raised(counting.string_number, CHAINED, length + 2), ("TooGreat", MOST))
        self.assertEqual(raised(counting.walk_number, CHAINED, 10 ** 30), ("TooGreat", MOST))

    def test_bounds_of_between(self):
        # From one letter of a band to one of the other: half as many walks as letters, less some.
        x, y, less = 0, -5, 0
        while not counting.between(CHAINED, x, y, 2 * less + 2):
            less += 1
        self.assertEqual([counting.between(CHAINED, x, y, 2 * (less + k) + 2) for k in range(9)], list(range(1, 10)))
        length = 2 * (less + MOST - 1) + 2
        self.assertEqual(counting.between(CHAINED, x, y, length), MOST)
        self.assertEqual(counting.between(CHAINED, x, y, length + 1), 0)
        self.assertEqual(raised(counting.between, CHAINED, x, y, length + 2), ("TooGreat", MOST))
        self.assertEqual(raised(counting.between, CHAINED, x, y, 10 ** 30), ("TooGreat", MOST))
        self.assertEqual(counting.between(CHAINED, y, x, 10 ** 30), 0)

    def test_against_counts(self):
        for plan in naive.plans_for(60, 50) + [FULL]:
            told = exact(plan, 61)
            for length in list(range(7)) + [20, 59, 60, 61]:
                self.assertEqual(raised(counting.walk_number, plan, length), capped(told[length]))
                strings = told[0] if length == 0 else told[length] // 2
                self.assertEqual(raised(counting.string_number, plan, length), capped(strings))
                total = told[0] + sum(told[1:length + 1]) // 2
                self.assertEqual(raised(counting.string_total, plan, length), capped(total))

    def test_great_lengths_told_before(self):
        two = (4, ((0, 1), (0, 1), (2, 3), (2, 3), (1, 2)), ((0, 4), (4, 2)))
        four = (5, ((0, 1), (0, 1), (1, 2), (1, 2), (2, 3), (2, 3), (3, 4), (3, 4)),
                ((0, 2), (1, 3), (2, 4), (3, 5), (4, 6), (5, 7)))
        # Asked a thousand times each, they come to an end.
        for _ in range(1000):
            self.assertEqual(counting.string_number(two, MOST - 4), MOST)
            self.assertEqual(counting.walk_number(two, MOST // 2 - 4), MOST)
            self.assertEqual(counting.between(two, -4, -2, 2 * MOST + 1), MOST)
            self.assertEqual(counting.between(four, 0, 1, 10 ** 28), 0)
        self.assertEqual(raised(counting.string_number, two, MOST - 3), ("TooGreat", MOST))
        self.assertEqual(raised(counting.walk_number, two, MOST // 2 - 3), ("TooGreat", MOST))
        self.assertEqual(raised(counting.between, two, -4, -2, 2 * MOST + 3), ("TooGreat", MOST))
        self.assertEqual(raised(counting.between, four, 0, -3, 10 ** 28 + 1)[0], "TooGreat")

    def test_great_lengths_by_squaring(self):
        rng = random.Random(66)
        met = {}
        for plan in naive.plans_for(66, 60, 5) + [CHAINED] * 5 + naive.drawn_plans(67, 8, 12):
            letters = list(naive.letters_of(plan))
            if not letters:
                continue
            for most in (400, 10 ** 5, 10 ** 7, 10 ** 30):
                length = rng.randint(most // 2, most)
                walks = sum(capped_power(plan, [1] * len(letters), length - 1))
                total = plan[0] + capped_power(plan, [1] * len(letters) + [0], length, True)[-1] // 2
                self.assertEqual(raised(counting.walk_number, plan, length), capped(walks))
                self.assertEqual(raised(counting.string_number, plan, length), capped(walks // 2))
                self.assertEqual(raised(counting.string_total, plan, length), capped(total))
                x = rng.choice(letters)
                row = capped_power(plan, [int(x == y) for y in letters], length - 1)
                for y, number in zip(letters, row):
                    told = raised(counting.between, plan, x, y, length)
                    self.assertEqual(told, capped(number))
                    kind = min(number, 2) if number <= MOST else "great"
                    met[kind] = met.get(kind, 0) + 1
        self.assertEqual(set(met), {0, 1, 2, "great"})

    def test_between_over_several_forks(self):
        # Letters that lead back to themselves in many ways, but at lengths with one divisor, in one lot or in more.
        plans = ((2, ((0, 0), (0, 1), (1, 1)), ((0, 0), (2, 2))),
                 (3, ((0, 2), (1, 2), (2, 0), (0, 1), (2, 1)), ((0, 2), (1, 4), (2, 3), (4, 1))),
                 (4, ((3, 0), (1, 3), (0, 3), (2, 0), (3, 1), (1, 2)), ((0, 2), (1, 4), (2, 0), (4, 5))),
                 (7, ((3, 2), (0, 4), (5, 3), (6, 0), (6, 3), (4, 6), (2, 0), (2, 4), (0, 6)),
                  ((0, 6), (3, 1), (4, 0), (5, 4), (6, 8), (7, 5), (8, 3))))
        for plan in plans:
            letters = list(naive.letters_of(plan))
            met = {}
            for length in (10 ** 7, 10 ** 7 + 1, 10 ** 7 + 2):
                for x in letters:
                    row = capped_power(plan, [int(x == y) for y in letters], length - 1)
                    for y, number in zip(letters, row):
                        self.assertEqual(raised(counting.between, plan, x, y, length), capped(number))
                        met[number > MOST] = True
            self.assertEqual(len(met), 2)

    def test_between_letter_by_letter(self):
        rng = random.Random(68)
        for plan in naive.plans_for(68, 40, 5) + [CHAINED] * 3:
            letters = list(naive.letters_of(plan))
            for x in letters[:4]:
                row, length = {y: int(x == y) for y in letters}, 1
                for _ in range(6):
                    more = rng.choice((1, 2, 7, 20, 45))
                    for _ in range(more):
                        row = {y: sum(n for z, n in row.items() if naive.follows(plan, z, y)) for y in letters}
                    length += more
                    for y in letters:
                        self.assertEqual(raised(counting.between, plan, x, y, length), capped(row[y]))

    def test_totals_letter_by_letter(self):
        rng = random.Random(69)
        for plan in naive.plans_for(69, 40, 5) + [CHAINED, FULL]:
            told = exact(plan, 400)
            for length in sorted(rng.sample(range(401), 12)):
                strings = told[0] if length == 0 else told[length] // 2
                total = told[0] + sum(told[1:length + 1]) // 2
                self.assertEqual(raised(counting.walk_number, plan, length), capped(told[length]))
                self.assertEqual(raised(counting.string_number, plan, length), capped(strings))
                self.assertEqual(raised(counting.string_total, plan, length), capped(total))

    def test_walks_come_in_pairs(self):
        for plan in naive.plans_for(61, 40, 4):
            for length in range(1, 6):
                walks = naive.walks(plan, length)
                self.assertEqual(counting.walk_number(plan, length), len(walks))
                self.assertEqual(2 * counting.string_number(plan, length), len(walks))
                self.assertEqual(counting.string_number(plan, length), len(naive.strings(plan, length)))

    def test_between(self):
        for plan in naive.plans_for(62, 30, 4):
            for length in range(1, 6):
                walks = naive.walks(plan, length)
                for x in naive.letters_of(plan):
                    for y in naive.letters_of(plan):
                        self.assertEqual(counting.between(plan, x, y, length),
                                         sum(w[1][0] == x and w[1][-1] == y for w in walks))
        self.assertEqual(raised(counting.between, FULL, 0, -1, 10 ** 30 + 1)[0] in ("TooGreat", "nothing raised"), True)
        great = [raised(counting.between, FULL, 0, y, 10 ** 30) for y in naive.letters_of(FULL)]
        self.assertIn(("TooGreat", MOST), great)
        self.assertEqual({told for told in great if told[0] != "TooGreat"} <= {("nothing raised", 0)}, True)

    def test_band_number(self):
        self.assertEqual([counting.band_number(DOUBLE, n) for n in range(1, 6)], [0, 1, 0, 0, 0])
        self.assertEqual(counting.band_number(POINT, 60), 0)
        for plan in naive.plans_for(63, 60, 5):
            for length in range(1, 8):
                rows = naive.rounds(plan, length)
                self.assertEqual(counting.band_number(plan, length), len({naive.band(row) for row in rows}))
                self.assertEqual(2 * length * counting.band_number(plan, length), len(rows))
        # It is told however great it is.
        self.assertGreater(counting.band_number(naive.FULL, 60), 10 ** 12)


class Growth(unittest.TestCase):
    def test_by_hand(self):
        self.assertEqual(counting.growth(POINT), -1)
        self.assertEqual(counting.growth(LOOP), -1)
        self.assertEqual(counting.growth(DOUBLE), 0)
        self.assertEqual(counting.growth(CHAINED), 1)
        self.assertEqual(counting.growth(naive.RING), -1)
        self.assertIsNone(counting.growth(FULL))
        # Three doubled arrows in a row, and a fourth one on its own.
        three = (8, ((0, 1), (0, 1), (1, 2), (2, 3), (2, 3), (3, 4), (4, 5), (4, 5), (6, 7), (6, 7)),
                 ((1, 2), (2, 4), (4, 5), (5, 7)))
        self.assertEqual(counting.growth(three), 2)

    def test_numbers_grow_so(self):
        met = {}
        for plan in naive.plans_for(64, 300, 7):
            told = counting.growth(plan)
            met[told] = met.get(told, 0) + 1
            numbers = exact(plan, 60)
            if told == -1:
                self.assertEqual(numbers[-1], 0)
                self.assertFalse(rounds.has_bands(plan))
            elif told is not None:
                self.assertIsNotNone(rounds.band_list(plan))
                steps = 5040
                one, two = counting.walk_number(plan, steps), counting.walk_number(plan, 2 * steps)
                self.assertTrue(2 ** told * 0.6 < two / one < 2 ** told * 1.6, (plan, told, one, two))
            else:
                self.assertEqual(raised(rounds.band_list, plan), ("Endless",))
                self.assertEqual(raised(counting.walk_number, plan, 5040), ("TooGreat", MOST))
        self.assertTrue({-1, 0, 1, None} <= set(met), met)

    def test_drawn_letters_do_not_matter(self):
        rng = random.Random(65)
        for plan in naive.drawn_plans(65, 30, 5):
            points = list(range(plan[0]))
            rng.shuffle(points)
            arrows = list(range(len(plan[1])))
            rng.shuffle(arrows)
            from stringrooms.plans import renamed, turned_plan
            for other in (renamed(plan, tuple(points), tuple(arrows)), turned_plan(plan)):
                self.assertEqual(counting.growth(other), counting.growth(plan))
                self.assertEqual(raised(counting.string_total, other, 50), raised(counting.string_total, plan, 50))
                self.assertEqual(counting.band_number(other, 12), counting.band_number(plan, 12))


if __name__ == "__main__":
    unittest.main()
