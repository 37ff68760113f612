"""Fractions, as pairs (top, bottom) of integers without a common divisor, bottom above 0."""

from math import gcd

from touchpasses.kinds import is_integer

NOTHING = (0, 1)
WHOLE = (1, 1)


def lowest(top, bottom):
    """The fraction of these two integers, bottom above 0."""
    shared = gcd(top, bottom)
    return top // shared, bottom // shared


def plus(one, other):
    """The sum of two fractions."""
    return lowest(one[0] * other[1] + other[0] * one[1], one[1] * other[1])


def times(one, other):
    """The product of two fractions."""
    return lowest(one[0] * other[0], one[1] * other[1])


def distance(one, other):
    """How far two fractions are apart."""
    return lowest(abs(one[0] * other[1] - other[0] * one[1]), one[1] * other[1])


def is_less(one, other):
    """Whether the first one of two fractions is the less one."""
    return one[0] * other[1] < other[0] * one[1]


def is_fraction(value):
    """Whether this is a fraction."""
    if not isinstance(value, tuple) or len(value) != 2:
        return False
    top, bottom = value
    return is_integer(top) and is_integer(bottom) and bottom > 0 and lowest(top, bottom) == value


def is_limit(value):
    """Whether this is a limit for sudden ticks: a fraction from (0, 1) to (1, 1)."""
    return is_fraction(value) and 0 <= value[0] <= value[1]
