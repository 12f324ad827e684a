"""Tubes: the marked bands of one band and the powers of one irreducible polynomial."""

from stringrooms.errors import NotPoly
from stringrooms.fields import poly_power, power_of


def tube(prime, poly, most):
    """Return the pairs (power, powers in the middle) for the powers 1 to most; NotPoly for a poly that is not fit."""
    if power_of(prime, poly)[1] != 1:
        raise NotPoly()
    return tuple((power, (power - 1, power + 1) if power > 1 else (2,)) for power in range(1, most + 1))


def band_middle(prime, band, poly):
    """Return the marked bands in the middle for a power of an irreducible polynomial; NotPoly otherwise."""
    factor, many = power_of(prime, poly)
    powers = (many - 1, many + 1) if many > 1 else (2,)
    return tuple((band, poly_power(prime, factor, power)) for power in powers)
