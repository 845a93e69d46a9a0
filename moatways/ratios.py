"""Ratios: pairs (top, bottom) of integers in lowest terms, the bottom at least 1."""

from math import gcd

ZERO = (0, 1)


def ratio(top, bottom):
    """The ratio of two integers, the bottom at least 1."""
    shared = gcd(top, bottom)
    return (top // shared, bottom // shared)


def plus(first, second):
    """The sum of two ratios."""
    return ratio(first[0] * second[1] + second[0] * first[1], first[1] * second[1])


def minus(first, second):
    """The first ratio less the second one."""
    return ratio(first[0] * second[1] - second[0] * first[1], first[1] * second[1])


def less(first, second):
    """Tell whether the first ratio is below the second one."""
    return first[0] * second[1] < second[0] * first[1]
