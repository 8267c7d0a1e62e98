"""Whether anything is a whole number, a fraction, a name."""

from farthestcut.divisors import common_divisor

LETTERS = "abcdefghijklmnopqrstuvwxyz"
LONGEST_NAME = 8


def is_whole(thing):
    return isinstance(thing, int) and not isinstance(thing, bool)


def is_ratio(thing):
    if not isinstance(thing, tuple) or len(thing) != 2:
        return False
    if not is_whole(thing[0]) or not is_whole(thing[1]):
        return False
    return thing[1] >= 1 and common_divisor(thing[0], thing[1]) == 1


def is_name(thing):
    if not isinstance(thing, str) or not 1 <= len(thing) <= LONGEST_NAME:
        return False
    return all([sign in LETTERS for sign in thing])
