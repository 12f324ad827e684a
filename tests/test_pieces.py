"""[8], [39], [40], [45], [46] Pieces of walks and rounds, and pairs of them."""

import random
import unittest

from stringrooms import fields, pieces
from stringrooms.rooms import part_room, string_room
from stringrooms.rounds import begun_at, turned_round
from stringrooms.homs import map_size
from stringrooms.walks import check_walk
from tests import naive, naive_rooms
from tests.naive import CHAINED, DOUBLE, LINE, LOOP, POINT, PRIMES, raised


# A plan with endlessly many bands.
ENDLESS = (2, ((1, 1), (0, 0), (0, 1)), ((0, 0), (1, 1)))


def is_let_go(row, i, j, endless=False):
    n = len(row)
    ahead = row[(i - 1) % n] if endless else (row[i - 1] if i > 0 else None)
    behind = row[j % n] if endless else (row[j] if j < n else None)
    return (ahead is None or ahead < 0) and (behind is None or behind >= 0)


def is_taken_in(row, i, j, endless=False):
    return is_let_go(tuple(-1 - x for x in row), i, j, endless)


def walk_pieces(plan, walk):
    points = naive.points(plan, walk)
    n = len(walk[1])
    return [(i, j, (points[i], walk[1][i:j])) for i in range(n + 1) for j in range(i, n + 1)]


def round_pieces(plan, row, most):
    long = row * (most // len(row) + 2)
    return [(i, m, (naive.ends(plan, row[i])[0], long[i:i + m])) for i in range(len(row)) for m in range(most + 1)]


def ways_to_read(plan, one, other):
    told = [1] if one == other else []
    if one[1] and naive.about(plan, one) == other:
        told.append(-1)
    return told


def naive_pairs(plan, walk, other):
    return sorted((i, j, k, m, way) for i, j, one in walk_pieces(plan, walk) if is_let_go(walk[1], i, j)
                  for k, m, two in walk_pieces(plan, other) if is_taken_in(other[1], k, m)
                  for way in ways_to_read(plan, one, two))


class Walks(unittest.TestCase):
    def test_piece_of(self):
        walk = (1, (-1, 1, -1))
        self.assertEqual(pieces.piece_of(DOUBLE, walk, 0, 3), walk)
        self.assertEqual(pieces.piece_of(DOUBLE, walk, 2, 2), (1, ()))
        self.assertEqual(pieces.piece_of(DOUBLE, walk, 1, 3), (0, (1, -1)))
        self.assertEqual(pieces.piece_of(DOUBLE, walk, 3, 3), (0, ()))
        rng = random.Random(130)
        for plan in naive.plans_for(130, 40):
            walk = naive.drawn_walk(rng, plan, 9)
            for i, j, piece in walk_pieces(plan, walk):
                self.assertEqual(pieces.piece_of(plan, walk, i, j), piece)

    def test_let_go_and_taken_in(self):
        self.assertEqual(pieces.let_go(POINT, (0, ())), ((0, 0),))
        self.assertEqual(pieces.taken_in(POINT, (0, ())), ((0, 0),))
        self.assertEqual(pieces.let_go(LINE, (0, (0, 1))), ((0, 0), (0, 1), (0, 2)))
        self.assertEqual(pieces.taken_in(LINE, (0, (0, 1))), ((0, 2), (1, 2), (2, 2)))
        self.assertEqual(pieces.let_go(LOOP, (0, (-1,))), ((0, 1), (1, 1)))
        rng = random.Random(131)
        for plan in naive.plans_for(131, 60):
            walk = naive.drawn_walk(rng, plan, 12)
            told = [(i, j) for i, j, _ in walk_pieces(plan, walk)]
            self.assertEqual(pieces.let_go(plan, walk), tuple(p for p in told if is_let_go(walk[1], *p)))
            self.assertEqual(pieces.taken_in(plan, walk), tuple(p for p in told if is_taken_in(walk[1], *p)))

    def test_pairs_by_hand(self):
        self.assertEqual(pieces.map_pairs(POINT, (0, ()), (0, ())), ((0, 0, 0, 0, 1),))
        self.assertEqual(pieces.map_pairs(LOOP, (0, (0,)), (0, (0,))), ((0, 0, 1, 1, 1), (0, 1, 0, 1, 1)))
        self.assertEqual(pieces.map_pairs(LOOP, (0, (0,)), (0, (-1,))), ((0, 0, 0, 0, 1), (0, 1, 0, 1, -1)))
        self.assertEqual(pieces.map_pairs(LINE, (0, (0, 1)), (0, ())), ((0, 0, 0, 0, 1),))
        self.assertEqual(pieces.map_pairs(LINE, (0, ()), (0, (0, 1))), ())
        self.assertEqual(pieces.map_number(LINE, (2, ()), (0, (0, 1))), 1)

    def test_pairs_by_search(self):
        rng = random.Random(132)
        turned = 0
        for plan in naive.plans_for(132, 150):
            for _ in range(3):
                walk, other = naive.drawn_walk(rng, plan, 9), naive.drawn_walk(rng, plan, 9)
                told = pieces.map_pairs(plan, walk, other)
                self.assertEqual(told, tuple(naive_pairs(plan, walk, other)))
                self.assertEqual(pieces.map_number(plan, walk, other), len(told))
                turned += any(pair[4] == -1 and pair[0] < pair[1] for pair in told)
                self.assertEqual(pieces.map_number(plan, naive.about(plan, walk), other), len(told))
                self.assertEqual(pieces.map_number(plan, walk, naive.about(plan, other)), len(told))
        self.assertGreater(turned, 20)

    def test_as_many_as_maps(self):
        rng = random.Random(133)
        for plan in naive.plans_for(133, 60, 5):
            for prime in PRIMES:
                walk, other = naive.drawn_walk(rng, plan, 8), naive.drawn_walk(rng, plan, 8)
                self.assertEqual(pieces.map_number(plan, walk, other),
                                 naive_rooms.hom_number(plan, prime, naive_rooms.walk_room(plan, walk),
                                                        naive_rooms.walk_room(plan, other)))

    def test_sixty_letters(self):
        long = check_walk(DOUBLE, (0, (0, -2) * 30))
        # Let go pieces of this walk begin and end at the point 0.
        self.assertEqual(len(pieces.let_go(DOUBLE, long)), 31 * 32 // 2)
        self.assertEqual(len(pieces.taken_in(DOUBLE, long)), 31 + 30 + 30 * 31 // 2)
        self.assertEqual(pieces.map_pairs(DOUBLE, long, long), tuple(naive_pairs(DOUBLE, long, long)))

    def test_from_covers(self):
        # From the string of all ways from a point there are as many maps as places at the point.
        rng = random.Random(134)
        for plan in naive.plans_for(134, 60):
            for point in range(plan[0]):
                rows = [()]
                for a in range(len(plan[1])):
                    if plan[1][a][0] == point:
                        row = (a,)
                        while True:
                            behind = [b for b in range(len(plan[1])) if naive.follows(plan, row[-1], b)]
                            if not behind:
                                break
                            row += (behind[0],)
                        rows.append(row)
                rows = rows[-2:] if len(rows) > 2 else ([()] + rows)[-2:]
                ahead = tuple(-1 - x for x in reversed(rows[0]))
                start = naive.ends(plan, ahead[0])[0] if ahead else point
                cover = check_walk(plan, (start, ahead + rows[1]))
                for _ in range(4):
                    walk = naive.drawn_walk(rng, plan, 9)
                    self.assertEqual(pieces.map_number(plan, cover, walk), naive.points(plan, walk).count(point))


class Rounds(unittest.TestCase):
    def test_pieces(self):
        self.assertEqual(pieces.round_let_go(DOUBLE, (0, -2), 4),
                         ((0, 0, (0, ())), (0, 2, (0, (0, -2))), (0, 4, (0, (0, -2, 0, -2)))))
        self.assertEqual(pieces.round_taken_in(DOUBLE, (0, -2), 2), ((1, 0, (1, ())), (1, 2, (1, (-2, 0)))))
        self.assertEqual(pieces.round_let_go(DOUBLE, (0, -2), 0), ((0, 0, (0, ())),))
        self.assertEqual(pieces.round_let_go(DOUBLE, (0, -2), 200)[-1], (0, 200, (0, (0, -2) * 100)))
        self.assertEqual(len(pieces.round_taken_in(DOUBLE, (0, -2), 200)), 101)
        rng = random.Random(135)
        met = 0
        for plan in naive.plans_for(135, 100):
            row = naive.drawn_round(rng, plan, 10)
            if row:
                met += 1
                most = rng.choice((0, 1, 5, 30))
                every = round_pieces(plan, row, most)
                self.assertEqual(pieces.round_let_go(plan, row, most),
                                 tuple(t for t in every if is_let_go(row, t[0], t[0] + t[1], True)))
                self.assertEqual(pieces.round_taken_in(plan, row, most),
                                 tuple(t for t in every if is_taken_in(row, t[0], t[0] + t[1], True)))
        self.assertGreater(met, 15)

    def test_pairs_by_search(self):
        rng = random.Random(136)
        met = {"to": 0, "from": 0, "of": 0}
        for plan in naive.plans_for(136, 300) + [CHAINED] * 5 + [ENDLESS] * 40:
            row = naive.drawn_round(rng, plan, 8)
            if not row:
                continue
            walk = naive.drawn_walk(rng, plan, 20)
            every = [t for t in round_pieces(plan, row, 25)]
            gone = [t for t in every if is_let_go(row, t[0], t[0] + t[1], True)]
            taken = [t for t in every if is_taken_in(row, t[0], t[0] + t[1], True)]
            told = sorted((i, j, k, way) for i, j, one in walk_pieces(plan, walk) if is_let_go(walk[1], i, j)
                          for k, m, two in taken if m == j - i for way in ways_to_read(plan, one, two))
            self.assertEqual(pieces.pairs_to_round(plan, walk, row), tuple(told))
            met["to"] += len(told)
            told = sorted((k, i, j, way) for i, j, one in walk_pieces(plan, walk) if is_taken_in(walk[1], i, j)
                          for k, m, two in gone if m == j - i for way in ways_to_read(plan, one, two))
            self.assertEqual(pieces.pairs_from_round(plan, row, walk), tuple(told))
            met["from"] += len(told)
            other = rng.choice([row, turned_round(row), begun_at(row, 1), naive.drawn_round(rng, plan, 8) or row])
            others = [t for t in round_pieces(plan, other, 25) if is_taken_in(other, t[0], t[0] + t[1], True)]
            told = sorted((i, m, k, way) for i, m, one in gone for k, n, two in others if m == n
                          for way in ways_to_read(plan, one, two))
            self.assertEqual(pieces.pairs_of_rounds(plan, row, other), tuple(told))
            met["of"] += len(told)
        self.assertGreater(min(met.values()), 30)

    def test_letters_beyond_a_round(self):
        # The piece that is shared is longer than the round.
        row = (0, -2)
        walk = (1, (-2, 0) * 10 + (-2,))
        self.assertEqual(pieces.pairs_to_round(DOUBLE, walk, row), ())
        self.assertEqual(pieces.pairs_from_round(DOUBLE, row, walk), ())
        plan = CHAINED
        self.assertEqual(pieces.pairs_of_rounds(DOUBLE, row, row), ())
        self.assertEqual(pieces.pairs_of_rounds(plan, (0, -2), (3, -5)), ())
        long = (1, (-2, 0) * 20 + (2, 3))
        self.assertEqual(pieces.pairs_to_round(plan, check_walk(plan, long), (0, -2)),
                         tuple(sorted((i, j, k, way) for i, j, one in walk_pieces(plan, long)
                                      if is_let_go(long[1], i, j)
                                      for k, m, two in pieces.round_taken_in(plan, (0, -2), 60) if m == j - i
                                      for way in ways_to_read(plan, one, two))))


class Parts(unittest.TestCase):
    def test_by_hand(self):
        band = ("band", (0, -2), (1,))
        self.assertEqual(pieces.part_number(DOUBLE, 3, band, band), 1)
        self.assertEqual(pieces.part_number(DOUBLE, 3, band, ("band", (0, -2), (2,))), 0)
        self.assertEqual(pieces.part_number(DOUBLE, 3, band, ("band", (1, -1), (1,))), 1)
        self.assertEqual(pieces.part_number(DOUBLE, 5, ("band", (0, -2), (2,)), ("band", (1, -1), (3,))), 1)
        self.assertEqual(pieces.part_number(DOUBLE, 5, ("band", (0, -2), (2,)), ("band", (1, -1), (2,))), 0)
        cubed = ("band", (0, -2), fields.poly_power(3, (1, 0), 3))
        self.assertEqual(pieces.part_number(DOUBLE, 3, cubed, cubed), 6)
        self.assertEqual(pieces.part_number(DOUBLE, 3, ("band", (0, -2), (1, 0)), cubed), 2)
        self.assertEqual(pieces.part_number(DOUBLE, 3, ("string", (1, ())), cubed), 6)
        self.assertEqual(pieces.part_number(DOUBLE, 3, cubed, ("string", (0, ()))), 6)

    def test_wrong_polynomials(self):
        band, string = ("band", (0, -2), (1,)), ("string", (0, ()))
        for poly in ((), (0,), (0, 1), (2, 0), (0, 0)):
            bad = ("band", (0, -2), poly)
            for pair in ((bad, band), (band, bad), (bad, string), (string, bad), (bad, bad)):
                self.assertEqual(raised(pieces.part_number, DOUBLE, 3, *pair), ("NotPoly",))

    def test_as_many_as_maps(self):
        rng = random.Random(137)
        kinds = {}
        for plan in naive.plans_for(137, 400, 4) + [CHAINED] * 20:
            prime = rng.choice((2, 3, 5))
            parts = naive_rooms.drawn_parts(rng, plan, prime, 40, 4, letters=9)
            for one in parts[:2]:
                choices = list(parts)
                if one[0] == "band":
                    row = begun_at(one[1], rng.randrange(len(one[1])))
                    choices += [("band", row, one[2]), ("band", turned_round(row), fields.undone(prime, one[2])),
                                ("band", row, fields.poly_power(prime, fields.power_of(prime, one[2])[0], 2))]
                for other in choices:
                    room, goal = (part_room(plan, prime, part) for part in (one, other))
                    if sum(a * b for a, b in zip(room[0], goal[0])) > 150:
                        continue
                    told = pieces.part_number(plan, prime, one, other)
                    self.assertEqual(told, map_size(plan, prime, room, goal), (plan, prime, one, other))
                    kinds[one[0], other[0]] = kinds.get((one[0], other[0]), 0) + 1
        self.assertEqual(len(kinds), 4)
        self.assertGreater(min(kinds.values()), 20)

    def test_strings_are_told_by_pairs(self):
        rng = random.Random(138)
        for plan in naive.plans_for(138, 30):
            walk, other = naive.drawn_walk(rng, plan), naive.drawn_walk(rng, plan)
            self.assertEqual(pieces.part_number(plan, 7, ("string", walk), ("string", other)),
                             pieces.map_number(plan, walk, other))
            self.assertEqual(map_size(plan, 7, string_room(plan, walk), string_room(plan, other)),
                             pieces.map_number(plan, walk, other))


if __name__ == "__main__":
    unittest.main()
