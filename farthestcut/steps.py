"""Going along ties, of a web that is one; what is taken may stand in any order, and watched ties too."""

from farthestcut.errors import NoWay
from farthestcut.names import is_whole
from farthestcut.webs import FIRST, LAST, ONE, OTHER, TIES, WORD, is_tie_number


def steps_along(tie):
    there = (tie[ONE], tie[OTHER])
    if tie[WORD] == "one":
        return [there]
    return [there, (tie[OTHER], tie[ONE])]


def steps_left(web, taken):
    steps = []
    for number, tie in enumerate(web[TIES]):
        if number not in taken:
            for here, there in steps_along(tie):
                steps.append((number, here, there))
    return steps


def numbers_out(web, taken, side):
    # The ties that are left and lead out of the side; one of both leads so one way about alone.
    return [number for number, here, there in steps_left(web, taken) if here in side and there not in side]


def walk_way(web, taken, thing):
    if not isinstance(thing, list):
        raise NoWay(None)
    places = [web[FIRST]]
    for at, number in enumerate(thing):
        there = place_behind(web, taken, places, number)
        if there is None:
            raise NoWay(at)
        places.append(there)
    if places[-1] != web[LAST]:
        raise NoWay(len(thing))
    return places


def is_way(web, taken, thing):
    try:
        walk_way(web, taken, thing)
    except NoWay:
        return False
    return True


def place_behind(web, taken, places, number):
    if places[-1] == web[LAST] or not is_tie_number(web, number) or number in taken:
        return None
    for here, there in steps_along(web[TIES][number]):
        if here == places[-1] and there not in places:
            return there
    return None


def look_at_numbers(thing):
    # Without a web no more can be asked of a way than that it is a list of what could be ties' numbers.
    if not isinstance(thing, list):
        raise NoWay(None)
    for at, number in enumerate(thing):
        if not is_whole(number) or number < 0:
            raise NoWay(at)
