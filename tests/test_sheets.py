"""[115] Sheets."""

import random
import unittest

from stringrooms import sheets
from stringrooms.claims import holds, opposite
from tests import naive
from tests.naive import DOUBLE, LINE, LINE_NOUGHT, POINT, TWELVE, raised
from tests.test_claims import drawn_claim
from tests.test_texts import NO_TEXTS

HEAD = "points 3\narrow 0 1\narrow 1 2\nclaims"
CLAIMS = (("string", (0, (0,))), ("not", ("maps", (0, ()), (1, ()), 1)), ("rest", (0, ()), (1, (1,))))
TEXT = HEAD + "\nstring 0 +0\nnot maps 0 ; 1 ; 1\nrest 0 ; 1 +1"


class Sheets(unittest.TestCase):
    def test_by_hand(self):
        self.assertEqual(sheets.sheet_text(LINE, CLAIMS), TEXT)
        self.assertEqual(sheets.read_sheet(TEXT), (LINE, CLAIMS))
        self.assertEqual(sheets.sheet_text(LINE, ()), HEAD)
        self.assertEqual(sheets.read_sheet(HEAD), (LINE, ()))
        self.assertEqual(sheets.sheet_text(POINT, (("cover", (0, ())),)), "points 1\nclaims\ncover 0")
        self.assertEqual(sheets.read_sheet("points 12\nclaims"), (TWELVE, ()))
        self.assertEqual(sheets.answers(LINE, CLAIMS), (True, True, True))
        self.assertEqual(sheets.answers(LINE, ()), ())
        self.assertEqual(sheets.amended(LINE, ()), ())
        wrong = (("string", (1, (-1,))), CLAIMS[0], ("not", ("cover", (0, (0, 1)))))
        self.assertEqual(sheets.answers(LINE, wrong), (False, True, False))
        self.assertEqual(sheets.amended(LINE, wrong), (("not", wrong[0]), CLAIMS[0], ("cover", (0, (0, 1)))))

    def test_drawn(self):
        rng = random.Random(570)
        for plan in naive.plans_for(571, 120):
            told = [drawn_claim(rng, plan) for _ in range(rng.randint(0, 5))]
            told = tuple(("not", claim) if rng.random() < 0.3 else claim for claim in told)
            text = sheets.sheet_text(plan, told)
            self.assertEqual(len(text.split("\n")), 2 + len(plan[1]) + len(plan[2]) + len(told))
            self.assertEqual(sheets.read_sheet(text), (plan, told))
            answers = sheets.answers(plan, told)
            self.assertEqual(answers, tuple(holds(plan, claim) for claim in told))
            better = sheets.amended(plan, told)
            self.assertEqual(better, tuple(c if a else opposite(c) for c, a in zip(told, answers)))
            self.assertTrue(all(sheets.answers(plan, better)))

    def test_no_text(self):
        for value in NO_TEXTS + ((LINE, CLAIMS),):
            self.assertEqual(raised(sheets.read_sheet, value), ("NotText", -1, -1))

    def test_no_parting_line(self):
        for text, lines in (("", 1), ("x", 1), ("points 3", 1), ("points 3\narrow 0 1", 2), ("points 3\nclaims ", 2),
                            ("points x\nClaims\n\n", 4), ("points 3\n claims", 2), ("points 3 claims", 1), ("claims\r", 1)):
            self.assertEqual(raised(sheets.read_sheet, text), ("NotText", lines, 0), repr(text))

    def test_the_plan(self):
        for text, place in (("claims", (0, 0)), ("claims\nclaims", (0, 0)), ("\nclaims", (0, 0)), ("points\nclaims", (0, 1)),
                            ("points 3 \nclaims", (0, 2)), ("points 3\n\nclaims", (1, 0)), ("points 3\narrow 0\nclaims", (1, 2)),
                            ("points 3\narrow 0\nclaims\nx", (1, 2)), ("points 3\nstring 0\nclaims", (1, 0)),
                            ("points 1\narrow 0 0\nnought 0 0\narrow 0 0\nclaims", (3, 0))):
            self.assertEqual(raised(sheets.read_sheet, text), ("NotText",) + place, repr(text))
        for text, place in (("points 0\nclaims", ("form", -1)), ("points 1\narrow 0 0\nclaims\nx", ("ends", 0)),
                            ("points 2\narrow 0 2\nclaims\nstring 9", ("arrow", 0))):
            self.assertEqual(raised(sheets.read_sheet, text), ("NotPlan",) + place, repr(text))

    def test_the_claims(self):
        for rows, place in (("", (4, 0)), ("\n", (4, 0)), ("string", (4, 1)), ("string 0 ", (4, 2)), ("string 0\n", (5, 0)),
                            ("string 0\n\nstring 0", (5, 0)), ("string 0\nclaims", (5, 0)), ("claims", (4, 0)),
                            ("string 0\nmaps 0 ; 1 ;", (5, 5)), ("not", (4, 1)), ("string 0\nnot hull 0 x", (5, 3)),
                            ("points 3", (4, 0)), ("string 0\nstring 1\nhull 0 +0 +", (6, 3)),
                            # Each line is judged ahead of the next one.
                            ("string x\nstring 9", (4, 1)), ("string 0\nstring x\nstring 9", (5, 1))):
            self.assertEqual(raised(sheets.read_sheet, HEAD + "\n" + rows), ("NotText",) + place, repr(rows))
        for rows in ("string 9", "string 0\nstring 0 +1", "string 9\nstring x", "string 0\nnot peace 0 ; 9\n"):
            self.assertEqual(raised(sheets.read_sheet, HEAD + "\n" + rows), ("NotPaper", "walk"), repr(rows))
        # What is a walk depends on the plan of the sheet.
        text = sheets.sheet_text(LINE_NOUGHT, ()) + "\nstring 0 +0 +1"
        self.assertEqual(raised(sheets.read_sheet, text), ("NotPaper", "walk"))
        self.assertEqual(sheets.read_sheet("points 2\narrow 0 1\narrow 0 1\nclaims\nstring 0" + " +0 -1" * 30)[0], DOUBLE)


if __name__ == "__main__":
    unittest.main()
