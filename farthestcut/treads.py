"""Treads: from which purses on the least way that a best taking leaves is longer."""

from farthestcut.numbers import is_less, ratio
from farthestcut.shortest import scaled_lengths, shortest_by
from farthestcut.takings import MOST_TAKEN, look_at_many, look_at_purse, means_of, takings_within
from farthestcut.webs import look_at_web


def treads_of(web, purse):
    look_at_web(web)
    look_at_purse(purse)
    look_at_many(web, purse, MOST_TAKEN)
    scaled = scaled_lengths(web)
    means = means_of(web, purse)
    sizes_left = []
    for taking, cost in takings_within(means):
        way = shortest_by(web, taking, scaled[0])
        sizes_left.append((cost, None if way is None else way[0]))
    return treads_from(sizes_left, means.bottom, scaled[1])


def treads_from(sizes_left, costs_bottom, sizes_bottom):
    # Of tuples (cost, size) in any order, whole numbers on two scales; a size is None where there is no way.
    treads = []
    for cost, size in rising_alone(longest_by_cost(sizes_left)):
        treads.append((ratio(cost, costs_bottom), None if size is None else ratio(size, sizes_bottom)))
    return treads


def longest_by_cost(sizes_left):
    found = {}
    for cost, size in sizes_left:
        if cost not in found or is_longer(size, found[cost]):
            found[cost] = size
    return found


def rising_alone(found):
    told = []
    for cost in sorted(list(found)):
        if told == [] or is_longer(found[cost], told[-1][1]):
            told.append((cost, found[cost]))
    return told


def is_longer(one, other):
    # None stands for no way at all, the longest of all.
    if other is None:
        return False
    return one is None or one > other


def length_by(treads, purse):
    look_at_purse(purse)
    length = None
    for worth, tread_length in treads:
        if not is_less(purse, worth):
            length = tread_length
    return length
