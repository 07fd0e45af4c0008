"""Ratios: tuples (numerator, denominator) without a common divisor, with a positive denominator."""

from math import gcd


def ratio_of(numerator, denominator):
    """The ratio of an integer to a positive one."""
    shared = gcd(numerator, denominator)
    return numerator // shared, denominator // shared


def ratio_sum(ratios):
    """The sum of a list of ratios."""
    total = (0, 1)
    for numerator, denominator in ratios:
        total = ratio_of(total[0] * denominator + numerator * total[1], total[1] * denominator)
    return total


def ratio_product(one, other):
    """The product of two ratios."""
    return ratio_of(one[0] * other[0], one[1] * other[1])
