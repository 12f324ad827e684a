"""[62] Tubes of marked bands."""

import random
import unittest

from stringrooms import fields, tubes
from stringrooms.pieces import part_number
from tests.naive import DOUBLE, PRIMES, raised

BAND = (-2, 0)


class Tubes(unittest.TestCase):
    def test_tube(self):
        self.assertEqual(tubes.tube(2, (1,), 1), ((1, (2,)),))
        self.assertEqual(tubes.tube(2, (1, 1), 3), ((1, (2,)), (2, (1, 3)), (3, (2, 4))))
        told = tubes.tube(7, (3,), 60)
        self.assertEqual(len(told), 60)
        self.assertEqual(told[59], (60, (59, 61)))
        for prime in PRIMES:
            for degree in (1, 2):
                for poly in fields.irreducibles(prime, degree):
                    self.assertEqual(tubes.tube(prime, poly, 2), ((1, (2,)), (2, (1, 3))))

    def test_tube_of_no_such_polynomial(self):
        for prime in PRIMES:
            square, both = fields.poly_power(prime, (1,), 2), fields.poly_times(prime, (1,), (0,))
            for poly in ((), (0,), (0, 0), (0,) * 12, square, both, fields.poly_power(prime, (1,), 12)):
                for most in (1, 60):
                    self.assertEqual(raised(tubes.tube, prime, poly, most), ("NotPoly",))

    def test_band_middle(self):
        self.assertEqual(tubes.band_middle(2, BAND, (1,)), ((BAND, (1, 0)),))
        self.assertEqual(tubes.band_middle(2, BAND, (1, 0)), ((BAND, (1,)), (BAND, (1, 1, 1))))
        rng = random.Random(250)
        for _ in range(100):
            prime = rng.choice(PRIMES)
            factor = rng.choice(fields.irreducibles(prime, rng.choice((1, 2, 3))))
            steps = rng.randint(1, 4)
            told = tubes.band_middle(prime, BAND, fields.poly_power(prime, factor, steps))
            powers = [steps - 1, steps + 1] if steps > 1 else [2]
            self.assertEqual(told, tuple((BAND, fields.poly_power(prime, factor, n)) for n in powers))
            # In the tube the numbers are those of the powers.
            self.assertEqual(dict(tubes.tube(prime, factor, steps))[steps], tuple(powers))

    def test_almost_split_numbers(self):
        for prime in (2, 3, 5):
            for factor in fields.irreducibles(prime, 1) + fields.irreducibles(prime, 2):
                for steps in (1, 2, 3):
                    poly = fields.poly_power(prime, factor, steps)
                    middle = tubes.band_middle(prime, BAND, poly)
                    others = [("band", BAND, fields.poly_power(prime, other, n))
                              for other in fields.irreducibles(prime, 1) for n in (1, 2, 3)]
                    others += [("string", walk) for walk in ((0, ()), (1, ()), (0, (0, -2, 0)), (1, (-1, 1)))]
                    for one in others:
                        less = 2 * part_number(DOUBLE, prime, one, ("band", BAND, poly))
                        less -= sum(part_number(DOUBLE, prime, one, ("band",) + part) for part in middle)
                        own = len(factor) if one == ("band", BAND, poly) else 0
                        self.assertEqual(less, own)

    def test_degrees_above_60(self):
        sixty = fields.poly_power(3, (1,), 60)
        self.assertEqual(raised(tubes.band_middle, 3, BAND, sixty), ("TooGreat", 60))
        fits = fields.poly_power(3, (1,), 59)
        self.assertEqual(tubes.band_middle(3, BAND, fits), ((BAND, fields.poly_power(3, (1,), 58)), (BAND, sixty)))
        seven = fields.irreducibles(2, 7)[0]
        self.assertEqual(raised(tubes.band_middle, 2, BAND, fields.poly_power(2, seven, 8)), ("TooGreat", 60))
        self.assertEqual(tubes.band_middle(2, BAND, fields.poly_power(2, seven, 7))[1][1], fields.poly_power(2, seven, 8))

    def test_no_such_power(self):
        for poly in ((), (0,), (0, 0), (0, 1), fields.poly_times(5, (1,), (2,))):
            self.assertEqual(raised(tubes.band_middle, 5, BAND, poly), ("NotPoly",))
        # Not a power comes ahead of a degree too great.
        both = fields.poly_times(5, fields.poly_power(5, (1,), 30), fields.poly_power(5, (2,), 30))
        self.assertEqual(raised(tubes.band_middle, 5, BAND, both), ("NotPoly",))
        self.assertEqual(raised(tubes.band_middle, 5, BAND, (0,) * 60), ("NotPoly",))


if __name__ == "__main__":
    unittest.main()
