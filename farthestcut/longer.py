"""Ties made longer: ways and prices with the lengths that a lengthening makes."""

from farthestcut.errors import NoAdds
from farthestcut.numbers import NOUGHT, plus
from farthestcut.prices import lets_prices
from farthestcut.shortest import shortest
from farthestcut.takings import look_at_taking
from farthestcut.ways import length_of
from farthestcut.webs import FIRST, LAST, LENGTH, ONE, OTHER, PLACES, TIES, WORD, WORTH, has_lengths, look_at_web
from farthestcut.wholes import on_one_scale


class Sizes:
    # Lengths and adds on one scale, as whole numbers.
    def __init__(self, plain, more, bottom):
        self.plain = plain
        self.more = more
        self.bottom = bottom


def sizes_of(web, adds):
    many = len(adds)
    scaled = on_one_scale([tie[LENGTH] for tie in web[TIES]] + adds)
    return Sizes(scaled[0][:many], scaled[0][many:], scaled[1])


def look_at_adds(web, thing):
    look_at_web(web)
    if not has_lengths(web, thing):
        raise NoAdds("adds are a list of fractions from 0 on, one for each tie")


def longer_length(web, adds, lengthening, way):
    return length_of(lengthened(web, adds, lengthening), way)


def lets_longer_prices(web, adds, lengthening, thing):
    return lets_prices(lengthened(web, adds, lengthening), [], thing)


def least_longer(web, adds, lengthening):
    return shortest(lengthened(web, adds, lengthening), [])


def lengthened(web, adds, lengthening):
    look_at_adds(web, adds)
    look_at_taking(web, lengthening)
    return longer_by(web, [add if number in lengthening else NOUGHT for number, add in enumerate(adds)])


def longer_by(web, more):
    ties = [longer_tie(tie, one) for tie, one in zip(web[TIES], more)]
    return (web[PLACES], ties, web[FIRST], web[LAST])


def longer_tie(tie, more):
    return (tie[ONE], tie[OTHER], tie[WORD], plus(tie[LENGTH], more), tie[WORTH])
