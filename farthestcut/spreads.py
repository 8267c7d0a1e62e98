"""Spreads: ties made longer by parts of their adds, as far as a purse lets it, and prices for such lengths."""

from farthestcut.errors import NoSpread
from farthestcut.longer import longer_by, look_at_adds
from farthestcut.numbers import NOUGHT, is_less, sum_of, times
from farthestcut.prices import lets_prices
from farthestcut.takings import look_at_purse
from farthestcut.webs import TIES, WORTH, is_length


def look_at_spread(web, adds, purse, thing):
    look_at_adds(web, adds)
    look_at_purse(purse)
    if not isinstance(thing, list) or len(thing) != len(web[TIES]):
        raise NoSpread(None)
    for number, more in enumerate(thing):
        most = NOUGHT if web[TIES][number][WORTH] is None else adds[number]
        if not is_length(more) or is_less(most, more):
            raise NoSpread(number)
    if is_less(purse, cost_of_spread(web, thing)):
        raise NoSpread(None)


def cost_of_spread(web, spread):
    return sum_of([times(tie[WORTH], more) for tie, more in zip(web[TIES], spread) if tie[WORTH] is not None])


def lets_spread_prices(web, adds, purse, spread, thing):
    look_at_spread(web, adds, purse, spread)
    return lets_prices(longer_by(web, spread), [], thing)
