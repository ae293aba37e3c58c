"""Fractions: pairs of integers in lowest terms, the second one at least 1."""

from math import gcd, lcm

from joinhouse.base.words import is_integer, is_pair

ZERO = (0, 1)
ONE = (1, 1)


def is_fraction(value):
    """Whether the value is a pair of integers in lowest terms, the second one at least 1."""
    if not is_pair(value) or not is_integer(value[0]) or not is_integer(value[1]):
        return False
    return value[1] >= 1 and gcd(value[0], value[1]) == 1


def lowest(one, other):
    """The fraction of an integer and one of at least 1."""
    common = gcd(one, other)
    return one // common, other // common


def added(fractions):
    """The sum of some fractions."""
    whole = ZERO
    for one, other in fractions:
        whole = lowest(whole[0] * other + one * whole[1], whole[1] * other)
    return whole


def multiplied(one, other):
    """The product of two fractions."""
    return lowest(one[0] * other[0], one[1] * other[1])


def is_at_most(one, other):
    """Whether one fraction is at most another one."""
    return one[0] * other[1] <= other[0] * one[1]


def common_denominator(fractions):
    """The least common denominator of some fractions."""
    common = 1
    for _, denominator in fractions:
        common = lcm(common, denominator)
    return common


def whole_of(fraction, times):
    """A fraction taken so many times, where this is an integer."""
    return fraction[0] * times // fraction[1]
