"""The least way of a web that is one, with the prices that show it; watched ties may be left out, too."""

from farthestcut.numbers import ratio
from farthestcut.steps import steps_left
from farthestcut.webs import FIRST, LAST, LENGTH, PLACES, TIES
from farthestcut.wholes import on_one_scale


def shortest(web, taken):
    scaled = scaled_lengths(web)
    found = all_reached(web, taken, scaled[0])
    prices = {}
    for place in web[PLACES]:
        prices[place] = ratio(found[place][0], scaled[1]) if place in found else None
    if web[LAST] not in found:
        return (None, None, prices)
    return (found[web[LAST]][1], prices[web[LAST]], prices)


def scaled_lengths(web):
    return on_one_scale([tie[LENGTH] for tie in web[TIES]])


def shortest_by(web, taken, sizes):
    # The least way alone, as a tuple of its size and itself, or None.
    return all_reached(web, taken, sizes).get(web[LAST])


def size_along(sizes, way):
    return sum([sizes[number] for number in way])


def side_reached(web, taken):
    found = all_reached(web, taken, [0 for tie in web[TIES]])
    return [place for place in web[PLACES] if place in found]


def all_reached(web, taken, sizes):
    # The nearest place comes next, so none is ever reached anew, and no way comes to a place twice.
    steps = steps_left(web, taken)
    found = {web[FIRST]: (0, [])}
    nearest = nearest_step(steps, sizes, found)
    while nearest is not None:
        found[nearest[0]] = (nearest[1], nearest[2])
        nearest = nearest_step(steps, sizes, found)
    return found


def nearest_step(steps, sizes, found):
    nearest = None
    for number, here, there in steps:
        if here in found and there not in found:
            size = found[here][0] + sizes[number]
            if nearest is None or size < nearest[1]:
                nearest = (there, size, found[here][1] + [number])
    return nearest
