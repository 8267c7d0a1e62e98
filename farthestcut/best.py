"""The best taking, with prices and cases that show that it leaves just so much, and no other one more."""

from farthestcut.casework import listed_cases, written_cases
from farthestcut.shortest import scaled_lengths, shortest, shortest_by, side_reached, size_along
from farthestcut.takings import MOST_TAKEN, look_at_many, look_at_purse, means_of
from farthestcut.webs import look_at_web


def best_taking(web, purse):
    look_at_web(web)
    look_at_purse(purse)
    look_at_many(web, purse, MOST_TAKEN)
    sizes = scaled_lengths(web)[0]
    written = written_cases("way", lambda taken: way_left(web, taken, sizes), means_of(web, purse))
    if written[0] is None:
        return ("cut", written[1], side_reached(web, written[1]))
    taking = longest_left(written[0], sizes)
    # Asked anew: the way is not to be the list that stands in the cases.
    found = shortest(web, taking)
    return ("left", taking, found[0], found[2], written[0])


def way_left(web, taken, sizes):
    found = shortest_by(web, taken, sizes)
    return None if found is None else found[1]


def longest_left(cases, sizes):
    # Each case has a least way, and what the cases claim is the longest of these: no taking leaves a longer one.
    longest = max(listed_cases(cases), key=lambda one: size_along(sizes, one[1]))
    return sorted(longest[0])
