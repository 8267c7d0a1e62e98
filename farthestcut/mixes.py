"""Mixes: ways gone by chance, each with its share, and what such a runner claims to have at the most on the whole."""

from farthestcut.errors import NoMix
from farthestcut.longer import look_at_adds
from farthestcut.names import is_ratio
from farthestcut.numbers import NOUGHT, is_less, look_at_length, minus, plus, sum_of, times
from farthestcut.steps import is_way
from farthestcut.takings import look_at_purse
from farthestcut.ways import length_of
from farthestcut.webs import TIES, WORTH, look_at_web

WHOLE = (1, 1)


def look_at_mix(web, thing):
    look_at_web(web)
    if not isinstance(thing, list):
        raise NoMix(None)
    ahead = []
    for number, one in enumerate(thing):
        if not is_way_with_share(web, one) or one[0] in ahead:
            raise NoMix(number)
        ahead.append(one[0])
    if sum_of([share for way, share in thing]) != WHOLE:
        raise NoMix(None)


def is_way_with_share(web, thing):
    if not isinstance(thing, tuple) or len(thing) != 2:
        return False
    return is_way(web, [], thing[0]) and is_ratio(thing[1]) and thing[1][0] > 0


def load_of(web, mix):
    look_at_mix(web, mix)
    return [load_on(mix, number) for number in range(len(web[TIES]))]


def load_on(mix, number):
    return sum_of([share for way, share in mix if number in way])


def claim_of_mix(web, adds, purse, mix, rate):
    look_at_adds(web, adds)
    look_at_purse(purse)
    look_at_mix(web, mix)
    look_at_length(rate)
    lengths = sum_of([times(share, length_of(web, way)) for way, share in mix])
    return plus(plus(lengths, times(rate, purse)), claim_of_adds(web, adds, mix, rate))


def claim_of_adds(web, adds, mix, rate):
    claims = []
    for number, tie in enumerate(web[TIES]):
        if tie[WORTH] is not None:
            above = minus(load_on(mix, number), times(rate, tie[WORTH]))
            claims.append(times(adds[number], above if is_less(NOUGHT, above) else NOUGHT))
    return sum_of(claims)
