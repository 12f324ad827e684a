"""[1] The errors: their kinds, and their values as attributes."""

import unittest

from stringrooms import errors


class Errors(unittest.TestCase):
    NAMED = {"NotPlan": ("rule", "place"), "NotWalk": ("place",), "NotRound": ("place",), "NotRoom": ("rule",),
             "NotPoly": (), "NotLot": ("word",), "NotMap": ("place",), "NotPaper": ("word",),
             "NotText": ("line", "word"), "NotName": ("name",), "NoWay": (), "Endless": (), "Unlike": (),
             "TooGreat": ("most",)}

    def test_kinds(self):
        self.assertEqual(errors.PlanError.__bases__, (ValueError,))
        for name in self.NAMED:
            self.assertEqual(getattr(errors, name).__bases__, (errors.PlanError,), name)

    def test_attributes(self):
        for name, words in self.NAMED.items():
            worths = [7, "x"][:len(words)]
            for error in (getattr(errors, name)(*worths), getattr(errors, name)(**dict(zip(words, worths)))):
                self.assertEqual(vars(error), dict(zip(words, worths)), name)
                with self.assertRaises(errors.PlanError):
                    raise error


if __name__ == "__main__":
    unittest.main()
