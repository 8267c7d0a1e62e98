"""Webs behind one another and beside one another, and their treads, told of the two ones' treads alone."""

from farthestcut.errors import NoJoin, NoWeb
from farthestcut.takings import look_at_purse
from farthestcut.treads import is_longer, treads_from
from farthestcut.turning import tie_called
from farthestcut.webs import FIRST, LAST, PLACES, TIES, look_at_web
from farthestcut.wholes import on_one_scale


def webs_behind(one, other):
    look_at_web(one)
    look_at_web(other)
    return joined(one, other, {other[FIRST]: one[LAST]}, other[LAST])


def webs_beside(one, other):
    look_at_web(one)
    look_at_web(other)
    return joined(one, other, {other[FIRST]: one[FIRST], other[LAST]: one[LAST]}, one[LAST])


def joined(one, other, put, last):
    # Those places of the other one that are put into the one's are called like these.
    called = {}
    for place in other[PLACES]:
        called[place] = put.get(place, place)
    places = one[PLACES] + [place for place in other[PLACES] if place not in put]
    ties = one[TIES] + [tie_called(tie, called) for tie in other[TIES]]
    web = (places, ties, one[FIRST], last)
    try:
        look_at_web(web)
    except NoWeb:
        raise NoJoin("the two have a name in both, or are too much for one web")
    return web


def treads_behind(one, other, purse):
    return treads_joined(one, other, purse, sum_of_both)


def treads_beside(one, other, purse):
    return treads_joined(one, other, purse, lesser_of_both)


def treads_joined(one, other, purse, size_of_both):
    look_at_purse(purse)
    worths = on_one_scale([worth for worth, length in one + other] + [purse])
    lengths = on_one_scale([length for worth, length in one + other])
    scaled = list(zip(worths[0][:-1], lengths[0]))
    both = []
    for cost, size in scaled[:len(one)]:
        for other_cost, other_size in scaled[len(one):]:
            if cost + other_cost <= worths[0][-1]:
                both.append((cost + other_cost, size_of_both(size, other_size)))
    return treads_from(both, worths[1], lengths[1])


def sum_of_both(size, other_size):
    return None if size is None or other_size is None else size + other_size


def lesser_of_both(size, other_size):
    return other_size if is_longer(size, other_size) else size
