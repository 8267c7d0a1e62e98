"""The most that goes through at once, with a side that lets out no more."""

from farthestcut.flows import look_at_rooms
from farthestcut.numbers import ratio
from farthestcut.takings import look_at_taking
from farthestcut.webs import FIRST, LAST, ONE, OTHER, PLACES, TIES, WORD
from farthestcut.wholes import on_one_scale


def most_flow(web, rooms, taking):
    look_at_rooms(web, rooms)
    look_at_taking(web, taking)
    scaled = on_one_scale(rooms)
    found = greatest_flow(web, scaled[0], taking)
    return ([ratio(amount, scaled[1]) for amount in found[0]], found[1])


def greatest_flow(web, rooms, taken):
    # Rooms and amounts are whole numbers here. Each time along a way of the fewest ties that have room left: so the
    # rounds are bounded by places and ties alone, however great the rooms.
    amounts = [0 for room in rooms]
    found = reached_with_room(web, rooms, taken, amounts)
    while web[LAST] in found:
        amounts = sent_along(web, rooms, amounts, found[web[LAST]])
        found = reached_with_room(web, rooms, taken, amounts)
    return (amounts, [place for place in web[PLACES] if place in found])


def reached_with_room(web, rooms, taken, amounts):
    # To each place reached the way there, of tuples (number, sign): 1 from one to other, -1 back.
    found = {web[FIRST]: []}
    waiting = [web[FIRST]]
    while waiting != []:
        here = waiting.pop(0)
        for number, sign, there in turns_from(web, taken, here):
            if there not in found and room_left(web[TIES][number], rooms[number], amounts[number], sign) > 0:
                found[there] = found[here] + [(number, sign)]
                waiting.append(there)
    return found


def turns_from(web, taken, here):
    turns = []
    for number, tie in enumerate(web[TIES]):
        if number not in taken and tie[ONE] == here:
            turns.append((number, 1, tie[OTHER]))
        if number not in taken and tie[OTHER] == here:
            turns.append((number, -1, tie[ONE]))
    return turns


def room_left(tie, room, amount, sign):
    if sign == 1:
        return room - amount
    return amount if tie[WORD] == "one" else room + amount


def sent_along(web, rooms, amounts, turns):
    more = min([room_left(web[TIES][number], rooms[number], amounts[number], sign) for number, sign in turns])
    sent = list(amounts)
    for number, sign in turns:
        sent[number] = sent[number] + sign * more
    return sent
