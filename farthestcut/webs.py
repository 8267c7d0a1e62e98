"""Ties and webs, and whether anything is one."""

from farthestcut.errors import NoWeb
from farthestcut.names import is_name, is_ratio, is_whole

# Where the things of a web stand in its tuple.
PLACES = 0
TIES = 1
FIRST = 2
LAST = 3

# Where the things of a tie stand in its tuple.
ONE = 0
OTHER = 1
WORD = 2
LENGTH = 3
WORTH = 4

WORDS = ("one", "both")
FEWEST_PLACES = 2
MOST_PLACES = 7
MOST_TIES = 14


def is_tie(thing):
    if not isinstance(thing, tuple) or len(thing) != 5:
        return False
    if not is_name(thing[ONE]) or not is_name(thing[OTHER]) or thing[ONE] == thing[OTHER]:
        return False
    if not isinstance(thing[WORD], str) or thing[WORD] not in WORDS:
        return False
    return is_length(thing[LENGTH]) and is_worth(thing[WORTH])


def is_length(thing):
    return is_ratio(thing) and thing[0] >= 0


def is_worth(thing):
    return thing is None or (is_ratio(thing) and thing[0] > 0)


def is_tie_number(web, thing):
    return is_whole(thing) and 0 <= thing < len(web[TIES])


def has_lengths(web, thing):
    if not isinstance(thing, list) or len(thing) != len(web[TIES]):
        return False
    return all([is_length(one) for one in thing])


def look_at_web(thing):
    if not isinstance(thing, tuple) or len(thing) != 4:
        raise NoWeb("web", None)
    look_at_places(thing[PLACES])
    look_at_ties(thing[TIES], thing[PLACES])
    if not is_place(thing[FIRST], thing[PLACES]):
        raise NoWeb("first", None)
    if not is_place(thing[LAST], thing[PLACES]) or thing[LAST] == thing[FIRST]:
        raise NoWeb("last", None)


def look_at_places(places):
    if not isinstance(places, list) or not FEWEST_PLACES <= len(places) <= MOST_PLACES:
        raise NoWeb("places", None)
    for number, place in enumerate(places):
        if not is_name(place) or place in places[:number]:
            raise NoWeb("places", number)


def look_at_ties(ties, places):
    if not isinstance(ties, list) or len(ties) > MOST_TIES:
        raise NoWeb("ties", None)
    for number, tie in enumerate(ties):
        if not is_tie(tie) or tie[ONE] not in places or tie[OTHER] not in places:
            raise NoWeb("ties", number)


def is_place(thing, places):
    return is_name(thing) and thing in places
