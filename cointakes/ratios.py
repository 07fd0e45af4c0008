"""Ratios: tuples (numerator, denominator) without a common divisor, with a positive denominator."""

from math import gcd


def ratio_of(numerator, denominator):
    """The ratio of an integer to a positive one."""
    shared = gcd(numerator, denominator)
    return numerator // shared, denominator // shared


def ratio_sum(ratios):
    """The sum of a list of ratios."""
    total = (0, 1)
    for numerator, denominator in ratios:
        total = ratio_of(total[0] * denominator + numerator * total[1], total[1] * denominator)
    return total


def ratio_product(one, other):
    """The product of two ratios."""
    return ratio_of(one[0] * other[0], one[1] * other[1])


def ratio_mean(ratios):
    """The mean of a list of ratios that is not empty."""
    numerator, denominator = ratio_sum(ratios)
    return ratio_of(numerator, denominator * len(ratios))


def chances_of(counts):
    """The tuple of the shares of some counts in their sum, None if that is 0."""
    total = sum(counts)
    if total == 0:
        return None
    return tuple([ratio_of(count, total) for count in counts])
