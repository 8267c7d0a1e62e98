"""Fractions: tuples (top, bottom) of whole numbers in lowest terms, the bottom from 1 on."""

from farthestcut.divisors import common_divisor
from farthestcut.errors import NoNumber
from farthestcut.names import is_ratio, is_whole

NOUGHT = (0, 1)


def ratio(top, bottom):
    if not is_whole(top) or not is_whole(bottom):
        raise NoNumber("a fraction is made of two whole numbers")
    if bottom == 0:
        raise NoNumber("a fraction's second number is not 0")
    divisor = common_divisor(top, bottom)
    if bottom < 0:
        divisor = -divisor
    return (top // divisor, bottom // divisor)


def plus(one, other):
    return ratio(one[0] * other[1] + other[0] * one[1], one[1] * other[1])


def minus(one, other):
    return ratio(one[0] * other[1] - other[0] * one[1], one[1] * other[1])


def times(one, other):
    return ratio(one[0] * other[0], one[1] * other[1])


def over(one, other):
    # Parted by nought the bottom is 0, and this is refused like any other such.
    return ratio(one[0] * other[1], one[1] * other[0])


def is_less(one, other):
    return one[0] * other[1] < other[0] * one[1]


def least_of(some):
    least = some[0]
    for one in some:
        if is_less(one, least):
            least = one
    return least


def most_of(some):
    most = some[0]
    for one in some:
        if is_less(most, one):
            most = one
    return most


def sum_of(some):
    total = NOUGHT
    for one in some:
        total = plus(total, one)
    return total


def look_at_length(thing):
    # Of a rate, too: both are fractions from 0 on.
    if not is_ratio(thing) or thing[0] < 0:
        raise NoNumber("a length, or a rate, is a fraction from 0 on")
