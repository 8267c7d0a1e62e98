"""Cases of flows, which show of every taking within a purse that it leaves no less than they claim."""

from farthestcut.casework import listed_cases, look_at_cases
from farthestcut.flows import amount_of, is_flow, look_at_rooms
from farthestcut.numbers import least_of
from farthestcut.takings import look_at_purse, means_of


def claim_of_flow_cases(web, rooms, purse, thing):
    look_at_rooms(web, rooms)
    look_at_purse(purse)
    look_at_cases("flow", lambda taken, flow: is_flow(web, rooms, taken, flow), means_of(web, purse), thing)
    return least_of([amount_of(web, flow) for taken, flow in listed_cases(thing)])
