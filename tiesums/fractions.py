"""Fractions: tuples (top, low) of integers that cannot be cut, low at least 1."""

from math import gcd

from tiesums.errors import BadFractions, BadNumber

ONE = (1, 1)


def is_integer(value):
    """Whether any value is an integer; True and False are none."""
    return isinstance(value, int) and not isinstance(value, bool)


def is_fraction(value):
    """Whether any value is a fraction."""
    if not isinstance(value, tuple) or len(value) != 2:
        return False
    top, low = value
    # As is_integer tells it, but this is asked so often that two calls more would count.
    if not isinstance(top, int) or not isinstance(low, int) or isinstance(top, bool) or isinstance(low, bool):
        return False
    return low >= 1 and gcd(top, low) == 1


def are_fractions(value):
    """Whether any value is a tuple of fractions."""
    return isinstance(value, tuple) and all([is_fraction(one) for one in value])


def cut(top, low):
    """The fraction that is one integer divided by another one, at least 1."""
    divisor = gcd(top, low)
    return (top // divisor, low // divisor)


def fraction(top, low=1):
    """The fraction that is top divided by low."""
    if not is_integer(top):
        raise BadNumber(top)
    if not is_integer(low) or low == 0:
        raise BadNumber(low)
    return cut(top, low) if low > 0 else cut(-top, -low)


def total(fractions, weights=None):
    """The sum of all fractions, each times its weight (1 if none are given)."""
    if not are_fractions(fractions):
        raise BadFractions(fractions)
    if weights is None:
        factors = (ONE,) * len(fractions)
    elif are_fractions(weights) and len(weights) == len(fractions):
        factors = weights
    else:
        raise BadFractions(weights)
    top, low = 0, 1
    for (over, under), (times, parts) in zip(fractions, factors):
        # Cut at each step: uncut, the numbers would grow with each fraction more.
        top, low = cut(top * under * parts + over * times * low, low * under * parts)
    return (top, low)
