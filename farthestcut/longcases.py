"""Cases of lengthenings, and the best lengthening with cases that show that no other one leaves a longer least way."""

from farthestcut.casework import listed_cases, look_at_cases, written_cases
from farthestcut.longer import least_longer, look_at_adds, sizes_of
from farthestcut.numbers import ratio
from farthestcut.shortest import shortest_by, side_reached, size_along
from farthestcut.steps import is_way
from farthestcut.takings import MOST_TAKEN, look_at_many, look_at_purse, means_of


def sizes_with(sizes, lengthening):
    return [size + sizes.more[number] if number in lengthening else size for number, size in enumerate(sizes.plain)]


def size_with(sizes, lengthening, way):
    return size_along(sizes_with(sizes, lengthening), way)


def claim_of_longer(web, adds, purse, thing):
    look_at_adds(web, adds)
    look_at_purse(purse)
    # The ties of the lengthening are not taken away: each way is one of the web as it is.
    look_at_cases("way", lambda lengthening, way: is_way(web, [], way), means_of(web, purse), thing)
    sizes = sizes_of(web, adds)
    return ratio(max([size_with(sizes, lengthening, way) for lengthening, way in listed_cases(thing)]), sizes.bottom)


def best_longer(web, adds, purse):
    look_at_adds(web, adds)
    look_at_purse(purse)
    look_at_many(web, purse, MOST_TAKEN)
    sizes = sizes_of(web, adds)
    cases = written_cases("way", lambda lengthening: way_with(web, sizes, lengthening), means_of(web, purse))[0]
    if cases is None:
        return ("none", side_reached(web, []))
    lengthening = longest_left(cases, sizes)
    # Asked anew: the way is not to be the list that stands in the cases.
    found = least_longer(web, adds, lengthening)
    return ("left", lengthening, found[0], found[2], cases)


def way_with(web, sizes, lengthening):
    found = shortest_by(web, [], sizes_with(sizes, lengthening))
    return None if found is None else found[1]


def longest_left(cases, sizes):
    # Each case has a least way as lengthened there, and the cases claim the longest of these.
    longest = max(listed_cases(cases), key=lambda one: size_with(sizes, one[0], one[1]))
    return sorted(longest[0])
