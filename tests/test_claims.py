"""[112], [113], [114] Claims and their texts."""

import random
import unittest

from stringrooms import claims
from stringrooms.bending import bends
from stringrooms.maps import own_pairs
from stringrooms.peace import are_peaceful
from stringrooms.pieces import map_number
from stringrooms.rests import cover_of, rest_of
from stringrooms.layers import hull_of
from stringrooms.translating import back, forth, middle
from stringrooms.walks import string_of, turned
from tests import naive
from tests.naive import DOUBLE, FORK, LINE, LINE_NOUGHT, LOOP, POINT, RING, TWELVE, raised
from tests.test_texts import NO_NUMBERS, NO_TEXTS

# Walks of LINE: its three points, and an arrow both ways round.
P, Q, R, A, B = (0, ()), (1, ()), (2, ()), (0, (0,)), (1, (-1,))


def drawn_claim(rng, plan):
    """A drawn plain claim, often one that holds."""
    walk, other = (naive.drawn_walk(rng, plan, 5) for _ in range(2))
    word = rng.choice(list(claims.ARGUMENTS))
    if word in ("string", "brick", "hull", "cover"):
        return (word, rng.choice((walk, cover_of(plan, walk[0]), hull_of(plan, walk[0]))))
    if word in ("peace", "forth"):
        there = forth(plan, walk)
        return (word, walk, other if there is None or rng.random() < 0.5 else turned(plan, there))
    if word in ("maps", "bends"):
        number = (map_number if word == "maps" else bends)(plan, walk, other)
        return (word, walk, other, number + rng.choice((0, 0, 1)))
    row = [rng.choice((one, turned(plan, one))) for one in (rest_of if word == "rest" else middle)(plan, walk)]
    rng.shuffle(row)
    if rng.random() < 0.4:
        row = row[:-1] if rng.random() < 0.5 else row + [other]
    return (word, walk) + tuple(row)


def right(plan, claim):
    """Whether a claim holds, by what it is told by."""
    word, walk = claim[0], claim[1]
    if word == "not":
        return not right(plan, claim[1])
    if word == "string":
        return walk <= naive.about(plan, walk)
    if word == "brick":
        return own_pairs(plan, walk) == ()
    if word == "hull":
        return string_of(plan, walk) in [hull_of(plan, p) for p in range(plan[0])]
    if word == "cover":
        return string_of(plan, walk) in [cover_of(plan, p) for p in range(plan[0])]
    if word == "peace":
        return are_peaceful(plan, walk, claim[2])
    if word == "forth":
        return back(plan, claim[2]) == string_of(plan, walk)
    if word in ("maps", "bends"):
        return (map_number if word == "maps" else bends)(plan, walk, claim[2]) == claim[3]
    several = sorted(naive.string(plan, one) for one in claim[2:])
    return list((rest_of if word == "rest" else middle)(plan, walk)) == several


class Holding(unittest.TestCase):
    def test_by_hand(self):
        told = {
            ("string", A): True, ("string", B): False, ("string", P): True, ("brick", A): True, ("hull", A): True,
            ("hull", P): True, ("hull", Q): False, ("cover", P): False, ("cover", (0, (0, 1))): True, ("cover", (2, (-2, -1))): True,
            ("hull", (2, (-2, -1))): True, ("peace", P, A): True, ("peace", P, Q): False, ("forth", R, Q): True,
            ("forth", Q, P): True, ("forth", P, Q): False, ("forth", P, P): False, ("maps", Q, A, 1): True,
            ("maps", Q, B, 1): True, ("maps", A, Q, 1): False, ("maps", A, Q, 0): True, ("bends", P, Q, 1): True,
            ("bends", P, Q, 0): False, ("rest", (0, (0, 1))): True, ("rest", P): False, ("rest", P, (1, (1,))): True,
            ("rest", P, (2, (-2,))): True, ("rest", P, (1, (1,)), (1, (1,))): False, ("middle", R, (1, (1,))): True,
            ("middle", R): False, ("middle", R, (2, (-2,))): True, ("not", ("string", A)): False, ("not", ("string", B)): True}
        for claim, answer in told.items():
            self.assertIs(claims.check_claim(LINE, claim), claim)
            self.assertIs(claims.holds(LINE, claim), answer, claim)
        # The order in which the walks stand does not matter, how often they do does.
        rest = rest_of(DOUBLE, (0, ()))
        self.assertEqual(rest, ((1, ()), (1, ())))
        self.assertTrue(claims.holds(DOUBLE, ("rest", (0, ()), (1, ()), (1, ()))))
        self.assertFalse(claims.holds(DOUBLE, ("rest", (0, ()), (1, ()))))
        told = middle(FORK, (1, ()))
        self.assertEqual(told, ((0, (0,)), (1, (-2,))))
        for row in (told, told[::-1], ((1, (-1,)), (2, (1,)))):
            self.assertTrue(claims.holds(FORK, ("middle", (1, ())) + row))
        self.assertFalse(claims.holds(LOOP, ("brick", (0, (0,)))))
        self.assertTrue(claims.holds(POINT, ("cover", (0, ()))) and claims.holds(POINT, ("hull", (0, ()))))
        self.assertTrue(claims.holds(POINT, ("rest", (0, ()))) and claims.holds(POINT, ("middle", (0, ()))))

    def test_opposite(self):
        self.assertEqual(claims.opposite(("string", A)), ("not", ("string", A)))
        self.assertEqual(claims.opposite(("not", ("string", A))), ("string", A))

    def test_drawn(self):
        rng = random.Random(560)
        met = {}
        for plan in naive.plans_for(561, 250):
            for _ in range(5):
                claim = drawn_claim(rng, plan)
                for one in (claim, ("not", claim)):
                    self.assertIs(claims.check_claim(plan, one), one)
                    self.assertIs(claims.holds(plan, one), right(plan, one), (plan, one))
                    self.assertEqual(claims.holds(plan, claims.opposite(one)), not claims.holds(plan, one))
                    self.assertEqual(claims.opposite(claims.opposite(one)), one)
                key = (claim[0], right(plan, claim))
                met[key] = met.get(key, 0) + 1
        self.assertEqual(len(met), 20, met)
        self.assertGreater(min(met.values()), 4, met)


class Checking(unittest.TestCase):
    def test_wrong(self):
        good, bad = ("string", A), ("string", (0, (1,)))
        told = {
            "many": (("not",), ("not", good, good), ("not", good, 1), ("not", 1, 2), ("string",), ("string", A, A), ("peace", A),
                     ("peace", A, A, A), ("maps", A, A), ("maps", A, A, 1, 1), ("bends",), ("rest",), ("middle",), ("forth", A),
                     ("string", 7, 7), ("not", ("string",)), ("not", ("rest",)), ("maps", 7, 7), ("maps", A, 0)),
            "form": ((), ("strings", A), ("not", 1), ("not", None), ("not", ()), ("not", ("not", good)), ("not", ["string", A]),
                     ("Not", good), (1, A), (None,), (("string",), A), (["string"], A), ({}, A), ("", A), (b"string", A),
                     ("not", "string"), ("string ", A), (True,), ("not", (0,)), ("not", ([],)), (("not",), good)),
            "walk": (bad, ("not", bad), ("string", 7), ("string", None), ("string", (3, ())), ("peace", A, bad[1]),
                     ("peace", [], A), ("rest", A, A, bad[1]), ("middle", 0), ("maps", A, 1, 1), ("maps", 1, A, "x"),
                     ("maps", A, (0, (9,)), -1), ("bends", A, [], 1000), ("rest", A, ()), ("string", (0, [0])), ("hull", 0)),
            "number": (("maps", A, A, -1), ("maps", A, A, 1000), ("maps", A, A, True), ("maps", A, A, "1"), ("maps", A, A, None),
                       ("bends", A, A, A), ("bends", A, A, 1.0), ("not", ("maps", A, A, 10 ** 30)), ("bends", A, A, [])),
        }
        for word, values in told.items():
            for value in values:
                self.assertEqual(raised(claims.check_claim, LINE, value), ("NotPaper", word), value)
        for value in naive.ODD_VALUES + ("string", "not", ["string", A], ["not", good]):
            self.assertEqual(raised(claims.check_claim, LINE, value), ("NotPaper", "form"), value)

    def test_right(self):
        long = (0, (0, -2) * 30)
        for plan, claim in ((LINE, ("maps", A, B, 0)), (LINE, ("maps", A, B, 999)), (DOUBLE, ("string", long)),
                            (LINE, ("rest", A)), (LINE, ("middle", A, *[B] * 30)), (LINE, ("not", ("bends", A, B, 999)))):
            self.assertIs(claims.check_claim(plan, claim), claim)
        self.assertEqual(raised(claims.check_claim, DOUBLE, ("string", (0, (0, -2) * 30 + (0,)))), ("NotPaper", "walk"))


class Texts(unittest.TestCase):
    def test_by_hand(self):
        for claim, text in ((("string", A), "string 0 +0"), (("cover", P), "cover 0"), (("peace", A, B), "peace 0 +0 ; 1 -0"),
                            (("maps", P, A, 12), "maps 0 ; 0 +0 ; 12"), (("bends", A, P, 0), "bends 0 +0 ; 0 ; 0"),
                            (("rest", P), "rest 0"), (("rest", P, (1, (1,))), "rest 0 ; 1 +1"),
                            (("middle", P, Q, R, A), "middle 0 ; 1 ; 2 ; 0 +0"), (("not", ("hull", B)), "not hull 1 -0"),
                            (("not", ("maps", P, Q, 999)), "not maps 0 ; 1 ; 999")):
            self.assertEqual(claims.claim_text(LINE, claim), text)
            self.assertEqual(claims.read_claim(LINE, text), claim)
        self.assertEqual(claims.claim_text(TWELVE, ("string", (11, ()))), "string 11")

    def test_there_and_back(self):
        rng = random.Random(562)
        for plan in naive.plans_for(563, 150):
            for _ in range(5):
                claim = drawn_claim(rng, plan)
                for one in (claim, ("not", claim)):
                    self.assertEqual(claims.read_claim(plan, claims.claim_text(plan, one)), one)

    def test_no_text(self):
        for value in NO_TEXTS + (("string", A),):
            self.assertEqual(raised(claims.read_claim, LINE, value), ("NotText", -1, -1))

    def test_words(self):
        told = {
            "": 0, " ": 0, "strings 0": 0, "String 0": 0, "not": 1, "not ": 1, "not not string 0": 1, "not x": 1, "; string 0": 0,
            "string": 1, "string ": 1, "string x": 1, "string 0 ": 2, "string  0": 1, " string 0": 0, "string 0 x": 2,
            "string 0 +0 0": 3, "string 0 ;": 2, "string 0 ; 1": 2, "string +0": 1, "string 0 +": 2, "string 00": 1, "string ; 0": 1,
            "peace 0": 2, "peace 0 +0": 3, "peace 0 1": 2, "peace 0 ;": 3, "peace 0 ; ": 3, "peace 0 ; ;": 3, "peace 0 ; x": 3,
            "peace 0 ; 1 ;": 4, "peace 0 ; 1 ; 2": 4, "peace 0 +0 ; 1 -0 -": 6, "peace 0 ;1": 2, "peace 0; 1": 1,
            "maps 0 ; 1": 4, "maps 0 ; 1 ;": 5, "maps 0 ; 1 ; +1": 5, "maps 0 ; 1 ; 1000": 5, "maps 0 ; 1 ; 1 1": 6,
            "maps 0 ; 1 ; 1 ": 6, "maps 0 ; 1 ; 1 ;": 6, "maps 0 ; 1 1": 4, "maps 0 ; 1 ; 1 +0": 6, "maps": 1, "bends 0 ; 1 ; x": 5,
            "rest": 1, "rest ;": 1, "rest 0 ;": 3, "rest 0 1": 2, "rest 0 ; 1 ;": 5, "rest 0 ; 1 x": 4, "rest 0 ; 1 ; ; 2": 5,
            "middle 0 ;  1": 3, "not rest 0 ;": 4, "not string 0 x": 3, "not maps 0 ; 1 ; 1 1": 7, "string 0\n": 1,
            "string\n0": 0, "string 0 +0\n": 2, "not\nstring 0": 0, "string 0 +0\nx": 2, "\nstring 0": 0, "string\t0": 0,
            # What is read is judged only where all can be read.
            "peace 99 ; 0 x": 4, "rest 0 +9 ; 0 ;": 6}
        for text, word in told.items():
            self.assertEqual(raised(claims.read_claim, LINE, text), ("NotText", 0, word), repr(text))
        for word in NO_NUMBERS:
            self.assertEqual(raised(claims.read_claim, LINE, "string " + word)[:3], ("NotText", 0, 1), repr(word))
            self.assertEqual(raised(claims.read_claim, LINE, "maps 0 ; 0 ; " + word)[:3], ("NotText", 0, 5), repr(word))
            for sign in "+-":
                self.assertEqual(raised(claims.read_claim, LINE, "string 0 " + sign + word)[:3], ("NotText", 0, 2), repr(word))

    def test_no_walk(self):
        for text in ("string 3", "string 0 +1", "string 0 +2", "string 0 +0 -0", "not string 3", "peace 0 ; 3", "maps 3 ; 0 ; 1",
                     "maps 0 ; 0 +999 ; 1", "rest 0 ; 1 ; 2 ; 3", "middle 3", "forth 0 ; 0 +0 +0"):
            self.assertEqual(raised(claims.read_claim, LINE, text), ("NotPaper", "walk"), text)
        self.assertEqual(raised(claims.read_claim, DOUBLE, "string 0" + " +0 -1" * 31), ("NotPaper", "walk"))
        self.assertEqual(claims.read_claim(DOUBLE, "string 0" + " +0 -1" * 30), ("string", (0, (0, -2) * 30)))
        self.assertEqual(raised(claims.read_claim, LINE_NOUGHT, "string 0 +0 +1"), ("NotPaper", "walk"))
        self.assertEqual(claims.read_claim(RING, "hull 2 +2"), ("hull", (2, (2,))))


if __name__ == "__main__":
    unittest.main()
