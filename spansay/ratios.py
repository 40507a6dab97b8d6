"""Ratios: pairs of integers without a common factor, in the place of fractions."""

from math import gcd

from spansay.errors import NotAllowed


def lowest(a, b):
    """Return the ratio of two integers."""
    if b == 0:
        raise NotAllowed("nothing is divided by 0")
    common = gcd(a, b)
    if b < 0:
        common = -common
    return (a // common, b // common)


def is_ratio(value):
    """Return True if a pair of integers is a ratio."""
    return value[1] >= 1 and gcd(value[0], value[1]) == 1


def plus(first, second):
    """Return the sum of two ratios."""
    return lowest(first[0] * second[1] + second[0] * first[1], first[1] * second[1])


def times(first, second):
    """Return the product of two ratios."""
    return lowest(first[0] * second[0], first[1] * second[1])


def compare(first, second):
    """Return -1, 0 or 1 if the first ratio is less than, equal to, or greater than the second one."""
    one = first[0] * second[1]
    other = second[0] * first[1]
    if one == other:
        return 0
    return -1 if one < other else 1
