"""What each tie is worth by itself: by how much the least way without it is longer."""

from farthestcut.errors import NoTie
from farthestcut.numbers import minus, most_of
from farthestcut.shortest import shortest
from farthestcut.webs import TIES, is_tie_number, look_at_web


def value_of(web, number):
    look_at_web(web)
    if not is_tie_number(web, number):
        raise NoTie("no tie of the web has this number")
    return value_by(shortest(web, [])[1], shortest(web, [number])[1])


def value_by(length, length_without):
    if length is None:
        return "none"
    if length_without is None:
        return "cut"
    return minus(length_without, length)


def values_all(web):
    look_at_web(web)
    length = shortest(web, [])[1]
    told = []
    for number in range(len(web[TIES])):
        without = shortest(web, [number])
        told.append((value_by(length, without[1]), without[0]))
    return told


def most_valued(web):
    values = [told[0] for told in values_all(web)]
    if values == [] or "none" in values:
        return []
    greatest = "cut" if "cut" in values else most_of(values)
    return [number for number, value in enumerate(values) if value == greatest]
