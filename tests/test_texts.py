"""[109], [110] Texts of plans and walks."""

import random
import unittest

from stringrooms import texts
from tests import naive
from tests.naive import DOUBLE, LINE, LINE_NOUGHT, LOOP, POINT, RING, TWELVE, raised

# Words that are no numbers.
NO_NUMBERS = ("", "00", "01", "1000", "0000", "-1", "+1", "1.", "x", "1x", " ", "\t1", "1\t", "\u0661", "\u00b2", "1_0")
NO_TEXTS = (None, True, 0, 1.5, b"points 1", [], ["points 1"], (), ("points 1",), {}, object())


class Plans(unittest.TestCase):
    def test_by_hand(self):
        self.assertEqual(texts.plan_text(POINT), "points 1")
        self.assertEqual(texts.plan_text(LINE), "points 3\narrow 0 1\narrow 1 2")
        self.assertEqual(texts.plan_text(LINE_NOUGHT), "points 3\narrow 0 1\narrow 1 2\nnought 0 1")
        self.assertEqual(texts.plan_text(TWELVE), "points 12")
        self.assertEqual(texts.read_plan("points 12"), TWELVE)
        self.assertEqual(texts.read_plan("points 1\narrow 0 0\nnought 0 0"), LOOP)

    def test_there_and_back(self):
        for plan in naive.plans_for(540, 200) + [naive.FULL, naive.GREAT, naive.WIDE]:
            self.assertEqual(texts.read_plan(texts.plan_text(plan)), plan)

    def test_no_text(self):
        for value in NO_TEXTS:
            self.assertEqual(raised(texts.read_plan, value), ("NotText", -1, -1))

    def test_words(self):
        told = {
            "": (0, 0), " ": (0, 0), "\n": (0, 0), "point 1": (0, 0), "Points 1": (0, 0), "points": (0, 1), "points ": (0, 1),
            "points  1": (0, 1), " points 1": (0, 0), "points 1 ": (0, 2), "points 1 1": (0, 2), "points\t1": (0, 0),
            "points 1\r": (0, 1), "points 1\n": (1, 0), "points 1\n\n": (1, 0), "points 2\narrow 0 1\n": (2, 0),
            "points 2\n\narrow 0 1": (1, 0), "arrow 0 1": (0, 0), "points 2\npoints 2": (1, 0), "points 2\narrow": (1, 1),
            "points 2\narrow 0": (1, 2), "points 2\narrow 0 ": (1, 2), "points 2\narrow 0 1 ": (1, 3),
            "points 2\narrow 0 1 1": (1, 3), "points 2\narrow  0 1": (1, 1), "points 2\n arrow 0 1": (1, 0),
            "points 2\narrow 0 x\narrow": (1, 2), "points 2\nnoughts 0 1": (1, 0), "points 2\nclaims": (1, 0),
            "points 1\narrow 0 0\nnought 0": (2, 2), "points 1\narrow 0 0\nnought 0 0 0": (2, 3),
            "points 1\narrow 0 0\nnought 0 0\narrow 0 0": (3, 0), "points 1\nnought 0 0\narrow 0 0": (2, 0),
            # What is read is judged only where all can be read.
            "points 99\narrow 0 0\nx": (2, 0), "points 0\narrow": (1, 1)}
        for text, place in told.items():
            self.assertEqual(raised(texts.read_plan, text), ("NotText",) + place, repr(text))
        for word in NO_NUMBERS:
            self.assertEqual(raised(texts.read_plan, "points " + word)[:3], ("NotText", 0, 1), repr(word))
            for line in ("arrow 0 ", "nought 0 "):
                place = ("NotText", 1, 2)
                self.assertEqual(raised(texts.read_plan, "points 2\n" + line + word)[:3], place, repr(word))

    def test_no_plan(self):
        told = {
            "points 0": ("form", -1), "points 13": ("form", -1), "points 999": ("form", -1),
            "points 2\narrow 0 2": ("arrow", 0), "points 2\narrow 0 1\narrow 999 0": ("arrow", 1),
            "points 2\narrow 0 1\nnought 0 0": ("nought", 0), "points 2\nnought 0 0": ("nought", 0),
            "points 3\narrow 0 1\narrow 1 2\nnought 0 1\nnought 0 1": ("nought", 1),
            "points 2\narrow 0 1\narrow 0 1\narrow 0 1": ("two", 0), "points 3\narrow 0 1\narrow 1 2\narrow 1 2": ("one", 0),
            "points 1\narrow 0 0": ("ends", 0)}
        for text, place in told.items():
            self.assertEqual(raised(texts.read_plan, text), ("NotPlan",) + place, repr(text))
        self.assertEqual(raised(texts.read_plan, "points 12" + "\narrow 0 0" * 25), ("NotPlan", "form", -1))

    def test_drawn_faults(self):
        rng = random.Random(541)
        met = {}
        for plan in naive.plans_for(542, 200):
            lines = [line.split(" ") for line in texts.plan_text(plan).split("\n")]
            at = rng.randrange(len(lines))
            place = rng.randrange(len(lines[at]))
            kind = rng.choice(("other", "gone", "more", "cut"))
            if kind == "other":
                lines[at][place], goal = rng.choice(("", "x", "01")), (at, place)
            elif kind == "more":
                lines[at].append(rng.choice(("", "0", "x")))
                goal = (at, len(lines[at]) - 1)
            elif kind == "gone":
                goal = (at, len(lines[at]) - 1)
                lines[at].pop()
                if not lines[at]:
                    continue
            else:
                lines.insert(at + 1, [""])
                goal = (at + 1, 0)
            text = "\n".join(" ".join(words) for words in lines)
            self.assertEqual(raised(texts.read_plan, text), ("NotText",) + goal, repr(text))
            met[kind] = True
        self.assertEqual(len(met), 4)


class Walks(unittest.TestCase):
    def test_by_hand(self):
        self.assertEqual(texts.walk_text(POINT, (0, ())), "0")
        self.assertEqual(texts.walk_text(TWELVE, (11, ())), "11")
        self.assertEqual(texts.walk_text(DOUBLE, (0, (0, -2, 0))), "0 +0 -1 +0")
        self.assertEqual(texts.walk_text(LINE, (2, (-2, -1))), "2 -1 -0")
        self.assertEqual(texts.read_walk(DOUBLE, "0 +0 -1 +0"), (0, (0, -2, 0)))
        self.assertEqual(texts.read_walk(LINE, "2 -1 -0"), (2, (-2, -1)))
        self.assertEqual(texts.read_walk(TWELVE, "11"), (11, ()))

    def test_there_and_back(self):
        rng = random.Random(543)
        for plan in naive.plans_for(544, 200) + [naive.FULL, naive.GREAT]:
            for most in (0, 3, 60):
                walk = naive.drawn_walk(rng, plan, most)
                self.assertEqual(texts.read_walk(plan, texts.walk_text(plan, walk)), walk)

    def test_no_text(self):
        for value in NO_TEXTS + (("0",), (0, ())):
            self.assertEqual(raised(texts.read_walk, LINE, value), ("NotText", -1, -1))

    def test_words(self):
        told = {"": 0, " ": 0, "+0": 0, "-0": 0, "0 ": 1, " 0": 0, "0  +0": 1, "0 +0 ": 2, "0 0": 1, "0 +": 1, "0 -": 1,
                "0 +0 1": 2, "0 +00": 1, "0 +01": 1, "0 +1000": 1, "0 ++0": 1, "0 +-0": 1, "0 + 0": 1, "0\n": 0, "0\n+0": 0,
                "0 +0\n": 1, "0 +0\n+1": 1, "\n0": 0, "0\t+0": 0, "0 +0 ;": 2, "0 *0": 1, "01 +0": 0, "0 x +y": 1,
                # What is read is judged only where all can be read.
                "99 +99 x": 2}
        for text, word in told.items():
            self.assertEqual(raised(texts.read_walk, LINE, text), ("NotText", 0, word), repr(text))
        for word in NO_NUMBERS:
            if word != " ":
                self.assertEqual(raised(texts.read_walk, LINE, word), ("NotText", 0, 0), repr(word))
            for sign in "+-":
                self.assertEqual(raised(texts.read_walk, LINE, "0 +0 " + sign + word)[:3], ("NotText", 0, 2), repr(word))

    def test_no_walk(self):
        self.assertEqual(raised(texts.read_walk, LINE, "3"), ("NotWalk", -1))
        self.assertEqual(raised(texts.read_walk, LINE, "999"), ("NotWalk", -1))
        self.assertEqual(raised(texts.read_walk, LINE, "0 +2"), ("NotWalk", -1))
        self.assertEqual(raised(texts.read_walk, LINE, "0 +0 -999"), ("NotWalk", -1))
        self.assertEqual(raised(texts.read_walk, LINE, "0 +1"), ("NotWalk", 0))
        self.assertEqual(raised(texts.read_walk, LINE, "0 +0 -0"), ("NotWalk", 1))
        self.assertEqual(raised(texts.read_walk, LINE_NOUGHT, "0 +0 +1"), ("NotWalk", 1))
        self.assertEqual(texts.read_walk(DOUBLE, "0" + " +0 -1" * 30), (0, (0, -2) * 30))
        self.assertEqual(raised(texts.read_walk, DOUBLE, "0" + " +0 -1" * 31), ("NotWalk", -1))
        self.assertEqual(texts.read_walk(RING, "0 +0 -0"[:4]), (0, (0,)))


if __name__ == "__main__":
    unittest.main()
