"""Ways: ties gone along one behind the other from first to last, no place come to twice."""

from farthestcut.numbers import sum_of
from farthestcut.steps import walk_way
from farthestcut.takings import look_at_taking
from farthestcut.webs import LENGTH, TIES, look_at_web


def look_at_way(web, taking, thing):
    look_at_taking(web, taking)
    walk_way(web, taking, thing)


def length_of(web, way):
    look_at_way(web, [], way)
    return sum_of([web[TIES][number][LENGTH] for number in way])


def places_of(web, way):
    look_at_web(web)
    return walk_way(web, [], way)
