"""Webs called otherwise, put in another order, turned about and scaled, and what goes along with them."""

from farthestcut.errors import NoTurn, NoWeb
from farthestcut.names import is_ratio
from farthestcut.numbers import times
from farthestcut.renumbering import cases_by, numbers_by
from farthestcut.steps import look_at_numbers, walk_way
from farthestcut.takings import look_at_taking
from farthestcut.webs import FIRST, LAST, LENGTH, ONE, OTHER, PLACES, TIES, WORD, WORTH
from farthestcut.webs import is_tie_number, look_at_places, look_at_web


def renamed(web, names):
    called = names_called(web, names)
    ties = [tie_called(tie, called) for tie in web[TIES]]
    return (list(names), ties, called[web[FIRST]], called[web[LAST]])


def names_called(web, names):
    look_at_web(web)
    try:
        look_at_places(names)
    except NoWeb:
        raise NoTurn("names are a list of unlike ones, each of one to eight small letters")
    if len(names) != len(web[PLACES]):
        raise NoTurn("there are as many names as places")
    return dict(zip(web[PLACES], names))


def tie_called(tie, called):
    return (called[tie[ONE]], called[tie[OTHER]], tie[WORD], tie[LENGTH], tie[WORTH])


def reordered(web, order):
    look_at_order(web, order)
    return (list(web[PLACES]), [web[TIES][number] for number in order], web[FIRST], web[LAST])


def look_at_order(web, order):
    look_at_web(web)
    if not isinstance(order, list) or not all([is_tie_number(web, number) for number in order]):
        raise NoTurn("an order is a list of ties' numbers")
    if sorted(order) != list(range(len(web[TIES]))):
        raise NoTurn("an order has the number of each tie once")


def turned(web):
    look_at_web(web)
    return (list(web[PLACES]), [tie_turned(tie) for tie in web[TIES]], web[LAST], web[FIRST])


def tie_turned(tie):
    if tie[WORD] == "both":
        return tie
    return (tie[OTHER], tie[ONE], tie[WORD], tie[LENGTH], tie[WORTH])


def scaled(web, span, cost):
    look_at_web(web)
    look_at_scale(span)
    look_at_scale(cost)
    ties = [tie_scaled(tie, span, cost) for tie in web[TIES]]
    return (list(web[PLACES]), ties, web[FIRST], web[LAST])


def look_at_scale(thing):
    if not is_ratio(thing) or thing[0] <= 0:
        raise NoTurn("a span, or a cost, is a fraction above 0")


def tie_scaled(tie, span, cost):
    worth = None if tie[WORTH] is None else times(cost, tie[WORTH])
    return (tie[ONE], tie[OTHER], tie[WORD], times(span, tie[LENGTH]), worth)


def prices_renamed(web, names, prices):
    called = names_called(web, names)
    told = {}
    for place in web[PLACES]:
        told[called[place]] = prices[place]
    return told


def taking_reordered(web, order, taking):
    look_at_order(web, order)
    look_at_taking(web, taking)
    return sorted(numbers_by(numbers_there(order), taking))


def numbers_there(order):
    there = {}
    for number, tie in enumerate(order):
        there[tie] = number
    return there


def way_reordered(web, order, way):
    look_at_order(web, order)
    walk_way(web, [], way)
    return numbers_by(numbers_there(order), way)


def cases_reordered(web, order, cases):
    look_at_order(web, order)
    return cases_by(numbers_there(order), cases)


def prices_scaled(prices, span):
    look_at_scale(span)
    told = {}
    for place in prices:
        told[place] = None if prices[place] is None else times(span, prices[place])
    return told


def way_turned(way):
    look_at_numbers(way)
    return list(reversed(way))
