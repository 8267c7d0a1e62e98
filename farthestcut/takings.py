"""Purses and takings: which ties may be taken, what they are worth, how many a purse is enough for."""

from farthestcut.errors import NoPurse, NoTaking, TooMany
from farthestcut.names import is_ratio
from farthestcut.numbers import is_less, sum_of
from farthestcut.webs import TIES, WORTH, is_tie_number, look_at_web
from farthestcut.wholes import on_one_scale

# How many ties at once are still gone through, where ties are taken from ways or made longer.
MOST_TAKEN = 3


class Means:
    # Worths and a purse on one scale: costs are whole numbers, None where a tie is watched.
    def __init__(self, costs, left, bottom):
        self.costs = costs
        self.left = left
        self.bottom = bottom


def means_of(web, purse):
    scaled = on_one_scale([tie[WORTH] for tie in web[TIES]] + [purse])
    return Means(scaled[0][:-1], scaled[0][-1], scaled[1])


def look_at_purse(thing):
    if not is_ratio(thing) or thing[0] < 0:
        raise NoPurse("a purse is a fraction from 0 on")


def look_at_taking(web, thing):
    look_at_web(web)
    if not isinstance(thing, list):
        raise NoTaking("a taking is a list")
    ahead = -1
    for number in thing:
        if not is_tie_number(web, number) or number <= ahead:
            raise NoTaking("a taking is of rising numbers of ties")
        if web[TIES][number][WORTH] is None:
            raise NoTaking("a watched tie can't be taken")
        ahead = number


def look_at_many(web, purse, most):
    if most_at_once(web, purse) > most:
        raise TooMany("more ties can be taken at once than are gone through")


def worth_of(web, taking):
    look_at_taking(web, taking)
    return sum_of([web[TIES][number][WORTH] for number in taking])


def is_within(web, taking, purse):
    look_at_taking(web, taking)
    look_at_purse(purse)
    return not is_less(purse, worth_of(web, taking))


def most_at_once(web, purse):
    look_at_web(web)
    look_at_purse(purse)
    means = means_of(web, purse)
    left = means.left
    many = 0
    for cost in sorted([one for one in means.costs if one is not None]):
        left = left - cost
        if left < 0:
            return many
        many = many + 1
    return many


def takings_within(means):
    # Each taking within the purse once, with what it costs.
    told = [([], 0)]
    for number, cost in enumerate(means.costs):
        if cost is not None:
            more = [(taking + [number], spent + cost) for taking, spent in told if spent + cost <= means.left]
            told = told + more
    return told
