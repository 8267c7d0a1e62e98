"""The best stop: the taking that leaves least to go through, with cases that show that no other one leaves less."""

from farthestcut.casework import listed_cases, written_cases
from farthestcut.flows import amount_of, look_at_rooms
from farthestcut.most import most_flow
from farthestcut.numbers import is_less
from farthestcut.takings import look_at_many, look_at_purse, means_of

MOST_STOPPED = 2


def best_stop(web, rooms, purse):
    look_at_rooms(web, rooms)
    look_at_purse(purse)
    look_at_many(web, purse, MOST_STOPPED)
    cases = written_cases("flow", lambda taken: most_flow(web, rooms, sorted(taken))[0], means_of(web, purse))[0]
    taking = least_left(web, cases)
    # Asked anew: the flow is not to be the list that stands in the cases.
    found = most_flow(web, rooms, taking)
    return (taking, found[0], found[1], cases)


def least_left(web, cases):
    # Each case has a flow that is the most, and the cases claim the least of these: no taking leaves less.
    least = None
    for taken, flow in listed_cases(cases):
        amount = amount_of(web, flow)
        if least is None or is_less(amount, least[0]):
            least = (amount, taken)
    return sorted(least[1])
