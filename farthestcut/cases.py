"""Cases, which show of every taking within a purse that it leaves a way no longer than they claim."""

from farthestcut.errors import NoCases, NoWay
from farthestcut.names import is_whole
from farthestcut.numbers import ratio
from farthestcut.steps import walk_way
from farthestcut.takings import look_at_purse
from farthestcut.webs import LENGTH, TIES, WORTH, look_at_web
from farthestcut.wholes import as_whole, shared_bottom

# Where the things of a case stand in its tuple.
WAY = 1
INNER = 2


class Spot:
    # Where one stands among the cases, by the tuples that one came through.
    def __init__(self, taken, kept, left, path):
        self.taken = taken
        self.kept = kept
        self.left = left
        self.path = path


def claim_of_cases(web, purse, thing):
    look_at_web(web)
    look_at_purse(purse)
    worths = [tie[WORTH] for tie in web[TIES]]
    bottom = shared_bottom([worth for worth in worths if worth is not None] + [purse])
    costs = [None if worth is None else as_whole(worth, bottom) for worth in worths]
    ways = ways_within(web, costs, Spot([], [], as_whole(purse, bottom), []), thing)
    return longest_of(web, ways)


def longest_of(web, ways):
    lengths = [tie[LENGTH] for tie in web[TIES]]
    bottom = shared_bottom(lengths)
    sizes = [as_whole(length, bottom) for length in lengths]
    return ratio(max([size_along(sizes, way) for way in ways]), bottom)


def size_along(sizes, way):
    return sum([sizes[number] for number in way])


def ways_within(web, costs, spot, case):
    look_at_case(web, costs, spot, case)
    ways = [case[WAY]]
    ahead = []
    for tie, inner in case[INNER]:
        path = spot.path + [len(ahead)]
        within = Spot(spot.taken + [tie], spot.kept + ahead, spot.left - costs[tie], path)
        ways.extend(ways_within(web, costs, within, inner))
        ahead = ahead + [tie]
    return ways


def look_at_case(web, costs, spot, case):
    if not is_way_tuple(case):
        raise NoCases(spot.path)
    try:
        walk_way(web, spot.taken, case[WAY])
    except NoWay:
        raise NoCases(spot.path) from None
    if not lists_just(takeable(costs, spot, case[WAY]), case[INNER]):
        raise NoCases(spot.path)


def is_way_tuple(case):
    return isinstance(case, tuple) and len(case) == 3 and isinstance(case[0], str) and case[0] == "way"


def takeable(costs, spot, way):
    free = [number for number in way if costs[number] is not None and number not in spot.kept]
    return [number for number in free if costs[number] <= spot.left]


def lists_just(ties, thing):
    if not isinstance(thing, list) or len(thing) != len(ties):
        return False
    return all([is_case_of(tie, one) for tie, one in zip(ties, thing)])


def is_case_of(tie, thing):
    return isinstance(thing, tuple) and len(thing) == 2 and is_whole(thing[0]) and thing[0] == tie
