"""Fractions: pairs (top, bottom) of integers without a common divisor, bottom from 1 on."""

from math import gcd

from struckpieces.kinds import is_integer


def is_fraction(thing):
    """Whether a thing is a fraction."""
    if not isinstance(thing, tuple) or len(thing) != 2:
        return False
    top, bottom = thing
    return is_integer(top) and is_integer(bottom) and bottom >= 1 and gcd(top, bottom) == 1


def ratio(top, bottom):
    """The fraction of two integers, bottom from 1 on."""
    common = gcd(top, bottom)
    return top // common, bottom // common


def ratio_sum(terms):
    """The sum of many pairs (times, fraction), each fraction so many times."""
    total = (0, 1)
    for times, (top, bottom) in terms:
        total = ratio(total[0] * bottom + times * top * total[1], total[1] * bottom)
    return total
