"""Cases of any word, looked at, written and listed: tuples (word, thing, cases), the thing a way or a flow."""

from farthestcut.errors import NoCases
from farthestcut.names import is_whole
from farthestcut.numbers import NOUGHT

# Where the things of a case stand in its tuple.
THING = 1
INNER = 2


class Spot:
    # Where one stands among the cases, by the tuples that one came through.
    def __init__(self, taken, kept, left, path):
        self.taken = taken
        self.kept = kept
        self.left = left
        self.path = path


def outermost(means):
    return Spot([], [], means.left, [])


def spots_within(costs, spot, ties):
    spots = []
    ahead = []
    for tie in ties:
        if can_be_taken(costs, spot, tie):
            path = spot.path + [len(ahead)]
            spots.append(Spot(spot.taken + [tie], spot.kept + ahead, spot.left - costs[tie], path))
            ahead = ahead + [tie]
    return spots


def can_be_taken(costs, spot, tie):
    if costs[tie] is None or tie in spot.taken or tie in spot.kept:
        return False
    return costs[tie] <= spot.left


def ties_in(word, thing):
    if word == "way":
        return thing
    return [number for number, amount in enumerate(thing) if amount != NOUGHT]


def look_at_cases(word, lets, means, case):
    # What lets tells, of those taken ahead and a thing, is whether it is a way, or a flow, for them.
    look_from(word, lets, means.costs, outermost(means), case)


def look_from(word, lets, costs, spot, case):
    if not is_case(word, case) or not lets(spot.taken, case[THING]):
        raise NoCases(spot.path)
    spots = spots_within(costs, spot, ties_in(word, case[THING]))
    if not lists_just([within.taken[-1] for within in spots], case[INNER]):
        raise NoCases(spot.path)
    for within, inner in zip(spots, case[INNER]):
        look_from(word, lets, costs, within, inner[1])


def is_case(word, thing):
    return isinstance(thing, tuple) and len(thing) == 3 and isinstance(thing[0], str) and thing[0] == word


def lists_just(ties, thing):
    if not isinstance(thing, list) or len(thing) != len(ties):
        return False
    return all([is_case_of(tie, one) for tie, one in zip(ties, thing)])


def is_case_of(tie, thing):
    return isinstance(thing, tuple) and len(thing) == 2 and is_whole(thing[0]) and thing[0] == tie


def written_cases(word, choose, means):
    # What choose tells, of those taken ahead, is a new way, or flow, or None. Told is a tuple (cases, None), or, where
    # there was none to choose, (None, taking).
    return write_from(word, choose, means.costs, outermost(means))


def write_from(word, choose, costs, spot):
    thing = choose(spot.taken)
    if thing is None:
        return (None, sorted(spot.taken))
    cases = []
    for within in spots_within(costs, spot, ties_in(word, thing)):
        written = write_from(word, choose, costs, within)
        if written[0] is None:
            return written
        cases.append((within.taken[-1], written[0]))
    return ((word, thing, cases), None)


def listed_cases(case):
    # Of each case a tuple: those taken ahead of it, in whatever order, and its thing.
    return list_from([], case)


def list_from(taken, case):
    told = [(taken, case[THING])]
    for tie, inner in case[INNER]:
        told.extend(list_from(taken + [tie], inner))
    return told
