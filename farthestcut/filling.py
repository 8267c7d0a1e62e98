"""Amounts sent from first to last along ties that have room left, as whole numbers, however great they are."""


class Turn:
    # A tie gone along one way about, sign 1 from one to other, -1 back, and how much more goes so; room is None where
    # there is no end to it.
    def __init__(self, number, sign, here, there, cost, room):
        self.number = number
        self.sign = sign
        self.here = here
        self.there = there
        self.cost = cost
        self.room = room


def filled(turns_with, amounts, first, last):
    # What turns_with tells, of amounts, is the turns that have room left. Each time along a way of the fewest turns:
    # so the rounds are bounded by places and ties alone, however great the rooms. Told is also to where there is room.
    found = fewest_turns(turns_with(amounts), first)
    while last in found:
        amounts = sent_along(amounts, found[last], least_room(found[last]))
        found = fewest_turns(turns_with(amounts), first)
    return (amounts, found)


def fewest_turns(turns, first):
    # To each place reached the turns that lead there.
    found = {first: []}
    waiting = [first]
    while waiting != []:
        here = waiting.pop(0)
        for turn in turns:
            if turn.here == here and turn.there not in found:
                found[turn.there] = found[here] + [turn]
                waiting.append(turn.there)
    return found


def least_room(turns):
    return min([turn.room for turn in turns if turn.room is not None])


def sent_along(amounts, turns, more):
    sent = list(amounts)
    for turn in turns:
        sent[turn.number] = sent[turn.number] + turn.sign * more
    return sent
