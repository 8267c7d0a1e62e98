"""The least way of a web that is one, with the prices that show it; watched ties may be left out, too."""

from farthestcut.numbers import ratio
from farthestcut.steps import steps_left
from farthestcut.webs import FIRST, LAST, LENGTH, PLACES, TIES
from farthestcut.wholes import as_whole, shared_bottom


def shortest(web, taken):
    lengths = [tie[LENGTH] for tie in web[TIES]]
    bottom = shared_bottom(lengths)
    found = all_reached(web, taken, [as_whole(length, bottom) for length in lengths])
    prices = {}
    for place in web[PLACES]:
        prices[place] = ratio(found[place][0], bottom) if place in found else None
    if web[LAST] not in found:
        return (None, None, prices)
    return (found[web[LAST]][1], prices[web[LAST]], prices)


def all_reached(web, taken, sizes):
    # The nearest place comes next, so none is ever reached anew, and no way comes to a place twice.
    steps = steps_left(web, taken)
    found = {web[FIRST]: (0, [])}
    nearest = nearest_step(steps, sizes, found)
    while nearest is not None:
        found[nearest[0]] = (nearest[1], nearest[2])
        nearest = nearest_step(steps, sizes, found)
    return found


def nearest_step(steps, sizes, found):
    nearest = None
    for number, here, there in steps:
        if here in found and there not in found:
            size = found[here][0] + sizes[number]
            if nearest is None or size < nearest[1]:
                nearest = (there, size, found[here][1] + [number])
    return nearest
