"""Where spreads and mixes meet in one number, and the least purse for which this is no less than a length."""

from farthestcut.bends import bends_of
from farthestcut.filling import Turn, fewest_turns, least_room, sent_along
from farthestcut.flows import goes_from
from farthestcut.longer import longer_by, look_at_adds
from farthestcut.mixes import WHOLE
from farthestcut.numbers import NOUGHT, is_less, look_at_length, minus, most_of, over, plus, ratio, times
from farthestcut.shortest import shortest, side_reached
from farthestcut.steps import steps_along
from farthestcut.takings import look_at_purse
from farthestcut.webs import FIRST, LAST, LENGTH, ONE, OTHER, TIES, WORTH


def meeting_of(web, adds, purse):
    look_at_adds(web, adds)
    look_at_purse(purse)
    side = side_reached(web, [])
    if web[LAST] not in side:
        return ("none", side)
    bends = bends_of(web, adds)
    for number in range(1, len(bends)):
        # So much a piece the purse pays for all that is carried here, beyond what that costs.
        told = over(plus(bends[number].cost, purse), bends[number].carried)
        if not is_less(bends[number].reach[web[LAST]], told):
            return met_at(web, bends[number - 1], bends[number], told)
    return met_by_all_adds(web, adds, bends[-1])


def met_at(web, ahead, bend, told):
    # At a bend the prices ahead of it and behind it are both let by, and so is whatever lies between them.
    low = ahead.reach[web[LAST]]
    part = over(minus(told, low), minus(bend.reach[web[LAST]], low))
    spread = between(spread_by(web, ahead.reach), spread_by(web, bend.reach), part)
    rate = over(WHOLE, bend.carried)
    return ("met", told, spread, prices_with(web, spread), mix_of(web, bend.amounts), rate)


def met_by_all_adds(web, adds, bend):
    # The purse is enough to make the least way as long as it is with all adds, and no more helps.
    spread = spread_by(web, bend.reach)
    all_adds = [NOUGHT if tie[WORTH] is None else add for tie, add in zip(web[TIES], adds)]
    way = shortest(longer_by(web, all_adds), [])[0]
    return ("met", bend.reach[web[LAST]], spread, prices_with(web, spread), [(way, WHOLE)], NOUGHT)


def spread_by(web, reach):
    return [most_of([NOUGHT] + lacks_of(tie, reach)) for tie in web[TIES]]


def lacks_of(tie, reach):
    # By how much the tie is too short for these prices, each way about.
    told = []
    for here, there in steps_along(tie):
        if here in reach:
            told.append(minus(minus(reach[there], reach[here]), tie[LENGTH]))
    return told


def between(one, other, part):
    return [plus(low, times(part, minus(high, low))) for low, high in zip(one, other)]


def prices_with(web, spread):
    return shortest(longer_by(web, spread), [])[2]


def mix_of(web, amounts):
    # Each way empties a tie, so that no later one is like it; what goes round stays behind.
    carried = goes_from(web, amounts, web[FIRST])
    left = carried
    mix = []
    while left > 0:
        way = fewest_turns(turns_within(web, amounts), web[FIRST])[web[LAST]]
        part = min(left, least_room(way))
        mix.append(([turn.number for turn in way], ratio(part, carried)))
        amounts = sent_along(amounts, way, -part)
        left = left - part
    return mix


def turns_within(web, amounts):
    turns = []
    for number, tie in enumerate(web[TIES]):
        if amounts[number] > 0:
            turns.append(Turn(number, 1, tie[ONE], tie[OTHER], 0, amounts[number]))
        if amounts[number] < 0:
            turns.append(Turn(number, -1, tie[OTHER], tie[ONE], 0, -amounts[number]))
    return turns


def least_purse(web, adds, length):
    look_at_adds(web, adds)
    look_at_length(length)
    if web[LAST] not in side_reached(web, []):
        return NOUGHT
    bends = bends_of(web, adds)
    if is_less(bends[-1].reach[web[LAST]], length):
        return None
    # Whatever a mix carries, the purse must pay what the length asks for it beyond its cost.
    return most_of([minus(times(length, bend.carried), bend.cost) for bend in bends])
