"""Purses and takings: which ties may be taken, what they are worth, how many a purse is enough for."""

from farthestcut.errors import NoPurse, NoTaking
from farthestcut.names import is_ratio
from farthestcut.numbers import is_less, sum_of
from farthestcut.webs import TIES, WORTH, is_tie_number, look_at_web
from farthestcut.wholes import as_whole, shared_bottom


def look_at_purse(thing):
    if not is_ratio(thing) or thing[0] < 0:
        raise NoPurse("a purse is a fraction from 0 on")


def look_at_taking(web, thing):
    look_at_web(web)
    if not isinstance(thing, list):
        raise NoTaking("a taking is a list")
    ahead = -1
    for number in thing:
        if not is_tie_number(web, number) or number <= ahead:
            raise NoTaking("a taking is of rising numbers of ties")
        if web[TIES][number][WORTH] is None:
            raise NoTaking("a watched tie can't be taken")
        ahead = number


def worth_of(web, taking):
    look_at_taking(web, taking)
    return sum_of([web[TIES][number][WORTH] for number in taking])


def is_within(web, taking, purse):
    look_at_taking(web, taking)
    look_at_purse(purse)
    return not is_less(purse, worth_of(web, taking))


def most_at_once(web, purse):
    look_at_web(web)
    look_at_purse(purse)
    worths = [tie[WORTH] for tie in web[TIES] if tie[WORTH] is not None]
    bottom = shared_bottom(worths + [purse])
    left = as_whole(purse, bottom)
    many = 0
    for worth in sorted([as_whole(one, bottom) for one in worths]):
        left = left - worth
        if left < 0:
            return many
        many = many + 1
    return many
