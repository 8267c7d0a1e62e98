"""Prices, which show that no way is shorter than they claim, and the least way with its prices."""

from farthestcut.numbers import NOUGHT, is_less, plus
from farthestcut.shortest import shortest
from farthestcut.steps import steps_left
from farthestcut.takings import look_at_taking
from farthestcut.webs import FIRST, LENGTH, PLACES, TIES, is_length


def lets_prices(web, taking, thing):
    look_at_taking(web, taking)
    if not prices_just_the_places(web[PLACES], thing) or thing[web[FIRST]] != NOUGHT:
        return False
    for number, here, there in steps_left(web, taking):
        if not is_let(thing[here], web[TIES][number][LENGTH], thing[there]):
            return False
    return True


def prices_just_the_places(places, thing):
    if not isinstance(thing, dict) or len(thing) != len(places):
        return False
    return all([place in thing and is_price(thing[place]) for place in places])


def is_price(thing):
    return thing is None or is_length(thing)


def is_let(here, length, there):
    if here is None:
        return True
    return there is not None and not is_less(plus(here, length), there)


def least_way(web, taking):
    look_at_taking(web, taking)
    return shortest(web, taking)
