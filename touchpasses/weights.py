"""Fractions, as pairs (top, bottom) of integers without a common divisor, bottom above 0."""

from math import gcd

NOTHING = (0, 1)
WHOLE = (1, 1)


def lowest(top, bottom):
    """The fraction of these two integers, bottom above 0."""
    shared = gcd(top, bottom)
    return top // shared, bottom // shared


def plus(one, other):
    """The sum of two fractions."""
    return lowest(one[0] * other[1] + other[0] * one[1], one[1] * other[1])


def times(one, other):
    """The product of two fractions."""
    return lowest(one[0] * other[0], one[1] * other[1])
