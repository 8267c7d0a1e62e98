"""Fractions on one scale, as whole numbers: many sums and comparisons then need no lowest terms."""

from farthestcut.divisors import common_divisor


def shared_bottom(some):
    bottom = 1
    for one in some:
        bottom = bottom // common_divisor(bottom, one[1]) * one[1]
    return bottom


def as_whole(one, bottom):
    return one[0] * (bottom // one[1])
