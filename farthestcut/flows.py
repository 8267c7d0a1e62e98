"""Rooms, flows and sides: how much goes along the ties at once, and how much a side lets out."""

from farthestcut.errors import NoFlow, NoRooms, NoSide, Unbalanced
from farthestcut.names import is_ratio
from farthestcut.numbers import NOUGHT, is_less, ratio, sum_of
from farthestcut.steps import numbers_out
from farthestcut.takings import look_at_taking
from farthestcut.webs import FIRST, LAST, ONE, OTHER, PLACES, TIES, WORD, has_lengths, is_place, look_at_web
from farthestcut.wholes import on_one_scale


def look_at_rooms(web, thing):
    look_at_web(web)
    if not has_lengths(web, thing):
        raise NoRooms("rooms are a list of fractions from 0 on, one for each tie")


def look_at_flow(web, rooms, taking, thing):
    look_at_rooms(web, rooms)
    look_at_taking(web, taking)
    look_at_amounts(web, rooms, taking, thing)
    look_at_balance(web, thing)


def look_at_amounts(web, rooms, taken, thing):
    if not isinstance(thing, list) or len(thing) != len(web[TIES]):
        raise NoFlow(None)
    for number, amount in enumerate(thing):
        room = NOUGHT if number in taken else rooms[number]
        if not is_amount(web[TIES][number], room, amount):
            raise NoFlow(number)


def is_amount(tie, room, thing):
    if not is_ratio(thing) or (thing[0] < 0 and tie[WORD] == "one"):
        return False
    return not is_less(room, (abs(thing[0]), thing[1]))


def look_at_balance(web, flow):
    sizes = on_one_scale(flow)[0]
    for place in web[PLACES]:
        if place != web[LAST] and not is_balanced(web, sizes, place):
            raise Unbalanced(place)


def is_balanced(web, sizes, place):
    more = goes_from(web, sizes, place)
    return more >= 0 if place == web[FIRST] else more == 0


def goes_from(web, sizes, place):
    # What goes from a place less what comes to it.
    more = 0
    for tie, size in zip(web[TIES], sizes):
        if tie[ONE] == place:
            more = more + size
        if tie[OTHER] == place:
            more = more - size
    return more


def is_flow(web, rooms, taken, thing):
    try:
        look_at_amounts(web, rooms, taken, thing)
        look_at_balance(web, thing)
    except NoFlow:
        return False
    except Unbalanced:
        return False
    return True


def amount_of(web, flow):
    look_at_web(web)
    scaled = on_one_scale(flow)
    return ratio(goes_from(web, scaled[0], web[FIRST]), scaled[1])


def room_of(web, rooms, taking, side):
    look_at_rooms(web, rooms)
    look_at_taking(web, taking)
    look_at_side(web, side)
    return sum_of([rooms[number] for number in numbers_out(web, taking, side)])


def look_at_side(web, thing):
    if not isinstance(thing, list) or not all([is_place(one, web[PLACES]) for one in thing]):
        raise NoSide("a side is a list of places")
    if thing != [place for place in web[PLACES] if place in thing]:
        raise NoSide("a side's places stand in the web's order, each once")
    if web[FIRST] not in thing or web[LAST] in thing:
        raise NoSide("first is in a side, and last is not")
