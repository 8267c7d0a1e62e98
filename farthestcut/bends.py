"""What one more costs as more is carried from first to last: where this bends, and the prices on both sides of it.

Each tie carries as much as its worth for its length a piece, and what is beyond that for its length and its add; a
watched one carries whatever there is for its length.
"""

from farthestcut.filling import Turn, filled
from farthestcut.flows import goes_from
from farthestcut.longer import sizes_of
from farthestcut.numbers import ratio
from farthestcut.shortest import shortest_by
from farthestcut.webs import FIRST, LAST, ONE, OTHER, TIES, WORD, WORTH
from farthestcut.wholes import on_one_scale


class Bend:
    # Amounts that cost least of all that carry so much (whole numbers on the worths' scale); how much they carry, what
    # that costs, and what one more would cost up to each place that is reached (fractions).
    def __init__(self, amounts, carried, cost, reach):
        self.amounts = amounts
        self.carried = carried
        self.cost = cost
        self.reach = reach


class Carriage:
    # Lengths, adds and worths as whole numbers, a watched tie's worth None; the two scales' bottoms.
    def __init__(self, sizes, worths):
        self.plain = sizes.plain
        self.more = sizes.more
        self.bottom = sizes.bottom
        self.worths = worths[0]
        self.worths_bottom = worths[1]


def bends_of(web, adds):
    # The web has a way. The first bend is where nothing is carried; from the last one on, one more always costs alike.
    carriage = Carriage(sizes_of(web, adds), on_one_scale([tie[WORTH] for tie in web[TIES]]))
    most = cost_with_all_adds(web, carriage)
    amounts = [0 for tie in web[TIES]]
    reach = least_costs(turns_with(web, carriage, amounts), web[FIRST])
    bends = [bend_at(web, carriage, amounts, reach)]
    while reach[web[LAST]] < most:
        amounts = carried_at(web, carriage, amounts, reach)
        reach = least_costs(turns_with(web, carriage, amounts), web[FIRST])
        bends.append(bend_at(web, carriage, amounts, reach))
    return bends


def cost_with_all_adds(web, carriage):
    # Along such a way there is no end to what is carried, so that one more never costs more than this.
    sizes = [cost_beyond(carriage, number) for number in range(len(web[TIES]))]
    return shortest_by(web, [], sizes)[0]


def cost_beyond(carriage, number):
    add = 0 if carriage.worths[number] is None else carriage.more[number]
    return carriage.plain[number] + add


def turn_for(carriage, number, amount):
    # What one more costs, and how much more goes for that, where the amount goes this way about already; an amount
    # below 0 comes the other way about, and less of it saves what it cost.
    plain = carriage.plain[number]
    worth = carriage.worths[number]
    if amount < 0 and (worth is None or -amount <= worth):
        return (-plain, -amount)
    if amount < 0:
        return (-cost_beyond(carriage, number), -amount - worth)
    if worth is not None and amount < worth:
        return (plain, worth - amount)
    return (cost_beyond(carriage, number), None)


def turns_with(web, carriage, amounts):
    turns = []
    for number, tie in enumerate(web[TIES]):
        there = turn_for(carriage, number, amounts[number])
        turns.append(Turn(number, 1, tie[ONE], tie[OTHER], there[0], there[1]))
        if tie[WORD] == "both" or amounts[number] > 0:
            back = turn_for(carriage, number, -amounts[number])
            turns.append(Turn(number, -1, tie[OTHER], tie[ONE], back[0], back[1]))
    return turns


def least_costs(turns, first):
    # Turns may save, but no round of them does: else what is carried already could be carried for less.
    reach = {first: 0}
    is_changed = True
    while is_changed:
        is_changed = False
        for turn in turns:
            if turn.here in reach and is_nearer(reach, turn):
                reach[turn.there] = reach[turn.here] + turn.cost
                is_changed = True
    return reach


def is_nearer(reach, turn):
    return turn.there not in reach or reach[turn.here] + turn.cost < reach[turn.there]


def carried_at(web, carriage, amounts, reach):
    # As much more as goes for just what one more costs here.
    def turns_at(some):
        return [turn for turn in turns_with(web, carriage, some) if is_straight(reach, turn)]

    return filled(turns_at, amounts, web[FIRST], web[LAST])[0]


def is_straight(reach, turn):
    return turn.here in reach and reach[turn.here] + turn.cost == reach[turn.there]


def bend_at(web, carriage, amounts, reach):
    carried = ratio(goes_from(web, amounts, web[FIRST]), carriage.worths_bottom)
    cost = sum([cost_of(carriage, number, abs(amount)) for number, amount in enumerate(amounts)])
    prices = {}
    for place in reach:
        prices[place] = ratio(reach[place], carriage.bottom)
    return Bend(amounts, carried, ratio(cost, carriage.bottom * carriage.worths_bottom), prices)


def cost_of(carriage, number, amount):
    worth = carriage.worths[number]
    beyond = 0 if worth is None or amount <= worth else amount - worth
    return carriage.plain[number] * amount + carriage.more[number] * beyond
