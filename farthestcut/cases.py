"""Cases, which show of every taking within a purse that it leaves a way no longer than they claim."""

from farthestcut.casework import listed_cases, look_at_cases
from farthestcut.numbers import ratio
from farthestcut.shortest import scaled_lengths, size_along
from farthestcut.steps import is_way
from farthestcut.takings import look_at_purse, means_of
from farthestcut.webs import look_at_web


def claim_of_cases(web, purse, thing):
    look_at_web(web)
    look_at_purse(purse)
    look_at_cases("way", lambda taken, way: is_way(web, taken, way), means_of(web, purse), thing)
    scaled = scaled_lengths(web)
    return ratio(max([size_along(scaled[0], way) for taken, way in listed_cases(thing)]), scaled[1])
