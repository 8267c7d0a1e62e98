"""Which ways are enough to be ready for: each taking within the purse leaves one of them."""

from farthestcut.casework import written_cases
from farthestcut.errors import NoWay
from farthestcut.steps import is_way
from farthestcut.takings import MOST_TAKEN, look_at_many, look_at_purse, means_of
from farthestcut.webs import look_at_web


def are_enough(web, purse, ways):
    look_at_web(web)
    look_at_purse(purse)
    look_at_ways(web, ways)
    look_at_many(web, purse, MOST_TAKEN)
    written = written_cases("way", lambda taken: one_left(ways, taken), means_of(web, purse))
    if written[0] is None:
        return ("hit", written[1])
    return ("enough", written[0])


def look_at_ways(web, ways):
    if not isinstance(ways, list):
        raise NoWay(None)
    for number, way in enumerate(ways):
        if not is_way(web, [], way):
            raise NoWay(number)


def one_left(ways, taken):
    for way in ways:
        if not any([number in taken for number in way]):
            return list(way)
    return None
