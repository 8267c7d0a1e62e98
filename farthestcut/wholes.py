"""Fractions on one scale, as whole numbers: many sums and comparisons then need no lowest terms."""

from farthestcut.divisors import common_divisor


def on_one_scale(some):
    # Nones stay where they are; with the whole numbers comes the bottom that belongs to all of them.
    bottom = shared_bottom([one for one in some if one is not None])
    return ([None if one is None else as_whole(one, bottom) for one in some], bottom)


def shared_bottom(some):
    bottom = 1
    for one in some:
        bottom = bottom // common_divisor(bottom, one[1]) * one[1]
    return bottom


def as_whole(one, bottom):
    return one[0] * (bottom // one[1])
