"""Treads: from which purses on the least way that a best taking leaves is longer."""

from farthestcut.numbers import is_less, ratio
from farthestcut.shortest import scaled_lengths, shortest_by
from farthestcut.takings import MOST_TAKEN, look_at_many, look_at_purse, means_of, takings_within
from farthestcut.webs import look_at_web


def treads_of(web, purse):
    look_at_web(web)
    look_at_purse(purse)
    look_at_many(web, purse, MOST_TAKEN)
    scaled = scaled_lengths(web)
    means = means_of(web, purse)
    found = longest_by_cost(web, scaled[0], means)
    treads = []
    for cost, size in rising_alone(found):
        length = None if size is None else ratio(size, scaled[1])
        treads.append((ratio(cost, means.bottom), length))
    return treads


def longest_by_cost(web, sizes, means):
    found = {}
    for taking, cost in takings_within(means):
        way = shortest_by(web, taking, sizes)
        size = None if way is None else way[0]
        if cost not in found or is_longer(size, found[cost]):
            found[cost] = size
    return found


def rising_alone(found):
    told = []
    for cost in sorted(list(found)):
        if told == [] or is_longer(found[cost], told[-1][1]):
            told.append((cost, found[cost]))
    return told


def is_longer(one, other):
    # None stands for no way at all, the longest of all.
    if other is None:
        return False
    return one is None or one > other


def length_by(treads, purse):
    look_at_purse(purse)
    length = None
    for worth, tread_length in treads:
        if not is_less(purse, worth):
            length = tread_length
    return length
