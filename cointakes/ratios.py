"""Ratios: tuples (numerator, denominator) without a common divisor, with a positive denominator."""

from math import gcd


def ratio_of(numerator, denominator):
    """The ratio of an integer to a positive one."""
    shared = gcd(numerator, denominator)
    return numerator // shared, denominator // shared
