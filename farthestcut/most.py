"""The most that goes through at once, with a side that lets out no more."""

from farthestcut.filling import Turn, filled
from farthestcut.flows import look_at_rooms
from farthestcut.numbers import ratio
from farthestcut.takings import look_at_taking
from farthestcut.webs import FIRST, LAST, ONE, OTHER, PLACES, TIES, WORD
from farthestcut.wholes import on_one_scale


def most_flow(web, rooms, taking):
    look_at_rooms(web, rooms)
    look_at_taking(web, taking)
    scaled = on_one_scale(rooms)
    nothing = [0 for room in rooms]
    found = filled(lambda amounts: turns_left(web, scaled[0], taking, amounts), nothing, web[FIRST], web[LAST])
    side = [place for place in web[PLACES] if place in found[1]]
    return ([ratio(amount, scaled[1]) for amount in found[0]], side)


def turns_left(web, rooms, taken, amounts):
    turns = []
    for number, tie in enumerate(web[TIES]):
        if number not in taken:
            back = amounts[number] if tie[WORD] == "one" else rooms[number] + amounts[number]
            turns.append(Turn(number, 1, tie[ONE], tie[OTHER], 0, rooms[number] - amounts[number]))
            turns.append(Turn(number, -1, tie[OTHER], tie[ONE], 0, back))
    return [turn for turn in turns if turn.room > 0]
