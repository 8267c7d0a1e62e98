import random
import unittest
from fractions import Fraction

from farthestcut.best import best_taking
from farthestcut.cases import claim_of_cases
from farthestcut.prices import least_way, lets_prices
from farthestcut.takings import look_at_taking, worth_of
from farthestcut.treads import treads_of
from farthestcut.turning import (
    cases_reordered, prices_renamed, prices_scaled, renamed, reordered, scaled, taking_reordered, turned, way_reordered,
    way_turned,
)
from farthestcut.ways import length_of, look_at_way
from farthestcut.webs import look_at_web
from helper import (
    BAD_WEB, WRONG_TAKINGS, WRONG_WEBS, Prickly, all_takings, all_ways, deep, diamond, is_askers_own, most_at_a_time,
    odd_things, pair, refusal, some_ratio, some_webs, tie,
)

LONG = 10 ** 60 - 1
ZERO = (0, 1)
NAMES = ["dd", "c", "abcdefgh", "z"]
ORDER = [2, 0, 4, 1, 3]
WRONG_SCALES = (ZERO, (-1, 1), (-1, LONG), (2, 4), (0, 2), (1, 0), (1, -1), 1, True, None, "1", [1, 1], (1,), (),
                (True, 1), (1, True), (1, 1, 1), {})


def wrong_names():
    told = odd_things() + [NAMES[:3], NAMES + ["e"], tuple(NAMES), dict(enumerate(NAMES)), "abcd", Prickly()]
    for number in range(4):
        for name in ("", "abcdefghi", "A", "a1", "a ", None, 1, True, [], Prickly(), NAMES[number - 1]):
            told.append(NAMES[:number] + [name] + NAMES[number + 1:])
    return told


def wrong_orders():
    told = odd_things() + [ORDER[:4], ORDER + [5], ORDER + [0], tuple(ORDER), dict(enumerate(ORDER)), Prickly()]
    for number in range(5):
        for thing in (-1, 5, 99, True, None, "0", (0,), Prickly(), ORDER[number - 1]):
            told.append(ORDER[:number] + [thing] + ORDER[number + 1:])
    return told + [[True, False, 2, 3, 4], [0, 1, 2, 3], []]


def some_names(chance, web):
    names = chance.sample(["a", "bb", "ccc", "dddd", "eeeee", "ffffff", "ggggggg", "x", "yz"], len(web[0]))
    return chance.choice((names, chance.sample(web[0], len(web[0]))))


def shuffled(chance, many):
    return chance.sample(range(many), many)


class TestWebs(unittest.TestCase):
    def test_renamed(self):
        self.assertEqual(renamed(diamond(), NAMES), (
            ["dd", "c", "abcdefgh", "z"],
            [
                tie("dd", "c", "one", (1, 1), (1, 1)), tie("c", "z", "one", (2, 1), (1, 2)),
                tie("dd", "abcdefgh", "one", (3, 2), (2, 1)), tie("z", "abcdefgh", "both", (5, 2), None),
                tie("abcdefgh", "c", "both", (1, 3), (1, 3)),
            ],
            "dd", "z"))

    def test_renamed_by_its_own_names(self):
        self.assertEqual(renamed(diamond(), ["a", "b", "c", "d"]), diamond())
        told = renamed(diamond(), ["d", "c", "b", "a"])
        self.assertEqual((told[0], told[2], told[3]), (["d", "c", "b", "a"], "d", "a"))
        self.assertEqual([one[:2] for one in told[1]],
                         [("d", "c"), ("c", "a"), ("d", "b"), ("a", "b"), ("b", "c")])

    def test_reordered(self):
        places, ties, first, last = diamond()
        self.assertEqual(reordered(diamond(), ORDER), (places, [ties[2], ties[0], ties[4], ties[1], ties[3]], "a", "d"))
        three = (places, ties[:3], first, last)
        self.assertEqual(reordered(three, [2, 0, 1]), (places, [ties[2], ties[0], ties[1]], first, last))
        self.assertEqual(reordered((["a", "b"], [], "a", "b"), []), (["a", "b"], [], "a", "b"))

    def test_turned(self):
        self.assertEqual(turned(diamond()), (
            ["a", "b", "c", "d"],
            [
                tie("b", "a", "one", (1, 1), (1, 1)), tie("d", "b", "one", (2, 1), (1, 2)),
                tie("c", "a", "one", (3, 2), (2, 1)), tie("d", "c", "both", (5, 2), None),
                tie("c", "b", "both", (1, 3), (1, 3)),
            ],
            "d", "a"))

    def test_scaled(self):
        told = scaled(diamond(), (2, 3), (3, 1))
        self.assertEqual([one[3] for one in told[1]], [(2, 3), (4, 3), (1, 1), (5, 3), (2, 9)])
        self.assertEqual([one[4] for one in told[1]], [(3, 1), (3, 2), (6, 1), None, (1, 1)])
        self.assertEqual([one[:3] for one in told[1]], [one[:3] for one in diamond()[1]])
        self.assertEqual((told[0], told[2], told[3]), (["a", "b", "c", "d"], "a", "d"))
        self.assertEqual(scaled(diamond(), (LONG, LONG - 1), (1, LONG))[1][0][3:], ((LONG, LONG - 1), (1, LONG)))
        nought = (["a", "b"], [tie("a", "b", "one", ZERO)], "a", "b")
        self.assertEqual(scaled(nought, (7, 1), (1, 1)), nought)

    def test_back_again(self):
        chance = random.Random(141)
        for web in [diamond()] + some_webs(141, 60):
            names, order = some_names(chance, web), shuffled(chance, len(web[1]))
            span, cost = some_ratio(chance, 1), some_ratio(chance, 1)
            self.assertEqual(renamed(renamed(web, names), web[0]), web)
            self.assertEqual(reordered(reordered(web, order), [order.index(k) for k in range(len(order))]), web)
            self.assertEqual(turned(turned(web)), web)
            self.assertEqual(scaled(scaled(web, span, cost), span[::-1], cost[::-1]), web)

    def test_they_are_webs_and_the_askers_own(self):
        chance = random.Random(142)
        for web in some_webs(142, 40):
            names, order = some_names(chance, web), shuffled(chance, len(web[1]))
            things = (web, names, order)
            ahead = deep(things)
            for told in (renamed(web, names), reordered(web, order), turned(web), scaled(web, (1, 2), (2, 1))):
                self.assertIsNone(look_at_web(told))
                self.assertTrue(is_askers_own(told, things))
                told[0].clear()
                told[1].clear()
            self.assertEqual(things, ahead)

    def test_names_that_are_none(self):
        for names in wrong_names():
            self.assertEqual(refusal(renamed, diamond(), names), ("NoTurn",))
            self.assertEqual(refusal(prices_renamed, diamond(), names, least_way(diamond(), [])[2]), ("NoTurn",))

    def test_orders_that_are_none(self):
        for order in wrong_orders():
            self.assertEqual(refusal(reordered, diamond(), order), ("NoTurn",))
            self.assertEqual(refusal(taking_reordered, diamond(), order, None), ("NoTurn",))
            self.assertEqual(refusal(way_reordered, diamond(), order, None), ("NoTurn",))
            self.assertEqual(refusal(cases_reordered, diamond(), order, ("way", [0, 1], [])), ("NoTurn",))

    def test_spans_and_costs_that_are_none(self):
        for thing in WRONG_SCALES + (Prickly(),):
            self.assertEqual(refusal(scaled, diamond(), thing, (1, 1)), ("NoTurn",))
            self.assertEqual(refusal(scaled, diamond(), (1, 1), thing), ("NoTurn",))
            self.assertEqual(refusal(scaled, diamond(), thing, thing), ("NoTurn",))
            self.assertEqual(refusal(prices_scaled, {"a": ZERO, "b": None}, thing), ("NoTurn",))

    def test_webs_that_are_none(self):
        for web in WRONG_WEBS:
            self.assertEqual(refusal(turned, web), BAD_WEB)
            for function in (renamed, reordered):
                self.assertEqual(refusal(function, web, None), BAD_WEB)
            for function in (scaled, prices_renamed, taking_reordered, way_reordered, cases_reordered):
                self.assertEqual(refusal(function, web, None, None), BAD_WEB)
        for function in (turned,):
            self.assertEqual(refusal(function, (["a"], [], "a", "a")), ("NoWeb", "places", None))


class TestAlong(unittest.TestCase):
    def test_of_the_diamond(self):
        prices = {"a": ZERO, "b": (1, 1), "c": None, "d": (3, 1)}
        self.assertEqual(prices_renamed(diamond(), NAMES, prices),
                         {"dd": ZERO, "c": (1, 1), "abcdefgh": None, "z": (3, 1)})
        self.assertEqual(prices_renamed(diamond(), ["b", "a", "d", "c"], prices),
                         {"b": ZERO, "a": (1, 1), "d": None, "c": (3, 1)})
        self.assertEqual(prices_scaled(prices, (2, 3)), {"a": ZERO, "b": (2, 3), "c": None, "d": (2, 1)})
        self.assertEqual(taking_reordered(diamond(), ORDER, [0, 2]), [0, 1])
        self.assertEqual(taking_reordered(diamond(), ORDER, [1, 4]), [2, 3])
        self.assertEqual(taking_reordered(diamond(), ORDER, []), [])
        self.assertEqual(way_reordered(diamond(), ORDER, [0, 4, 3]), [1, 2, 4])
        self.assertEqual(way_turned([0, 4, 3]), [3, 4, 0])
        self.assertEqual(way_turned([5]), [5])

    def test_cases_within_cases(self):
        cases = ("way", [0, 1], [(0, ("way", [2, 3], [])), (1, ("way", [0, 4, 3], [(4, ("way", [2, 3], []))]))])
        self.assertEqual(
            cases_reordered(diamond(), ORDER, cases),
            ("way", [1, 3], [(1, ("way", [0, 4], [])), (3, ("way", [1, 2, 4], [(2, ("way", [0, 4], []))]))]))

    def test_let_by_when_renamed(self):
        chance = random.Random(143)
        for web in some_webs(143, 80):
            names = some_names(chance, web)
            told = renamed(web, names)
            for taking in all_takings(web, some_ratio(chance))[:6]:
                way, length, prices = least_way(web, taking)
                there = prices_renamed(web, names, prices)
                self.assertEqual(least_way(told, taking), (way, length, there))
                self.assertIs(lets_prices(told, taking, there), True)
                self.assertEqual(there[told[3]], length)

    def test_let_by_when_reordered(self):
        chance = random.Random(144)
        seen = 0
        for web in some_webs(144, 240):
            order, purse = shuffled(chance, len(web[1])), some_ratio(chance)
            told = reordered(web, order)
            for taking in all_takings(web, purse)[:8]:
                there = taking_reordered(web, order, taking)
                self.assertIsNone(look_at_taking(told, there))
                self.assertEqual(worth_of(told, there), worth_of(web, taking))
                self.assertEqual([told[1][number] for number in there], [web[1][order[number]] for number in there])
                self.assertEqual(sorted(order[number] for number in there), taking)
            for way in all_ways(web):
                there = way_reordered(web, order, way)
                self.assertIsNone(look_at_way(told, [], there))
                self.assertEqual(length_of(told, there), length_of(web, way))
            if most_at_a_time(web, purse) <= 3:
                best = best_taking(web, purse)
                seen += self.check_cases(web, order, purse, best)
                self.assertEqual(treads_of(told, purse), treads_of(web, purse))
        self.assertGreater(seen, 20)

    def check_cases(self, web, order, purse, best):
        if best[0] != "left":
            return 0
        told = reordered(web, order)
        there = cases_reordered(web, order, best[4])
        self.assertEqual(claim_of_cases(told, purse, there), claim_of_cases(web, purse, best[4]))
        self.assertTrue(is_askers_own(there, (web, order, best[4])))
        return 1 if best[4][2] else 0

    def test_let_by_when_scaled(self):
        chance = random.Random(145)
        for web in some_webs(145, 60):
            span, cost, purse = some_ratio(chance, 1), some_ratio(chance, 1), some_ratio(chance)
            told = scaled(web, span, cost)
            for taking in all_takings(web, purse)[:6]:
                way, length, prices = least_way(web, taking)
                there = prices_scaled(prices, span)
                self.assertIs(lets_prices(told, taking, there), True)
                long = None if length is None else pair(Fraction(*length) * Fraction(*span))
                self.assertEqual(there[web[3]], long)
                self.assertEqual(least_way(told, taking), (way, long, there))
            if most_at_a_time(web, purse) <= 3:
                treads = [(pair(Fraction(*worth) * Fraction(*cost)),
                           None if long is None else pair(Fraction(*long) * Fraction(*span)))
                          for worth, long in treads_of(web, purse)]
                self.assertEqual(treads_of(told, pair(Fraction(*purse) * Fraction(*cost))), treads)

    def test_let_by_when_turned(self):
        chance = random.Random(146)
        for web in some_webs(146, 60):
            told, purse = turned(web), some_ratio(chance)
            self.assertEqual(sorted(way_turned(way) for way in all_ways(web)), all_ways(told))
            for way in all_ways(web):
                self.assertIsNone(look_at_way(told, [], way_turned(way)))
                self.assertEqual(length_of(told, way_turned(way)), length_of(web, way))
            if most_at_a_time(web, purse) <= 3:
                self.assertEqual(treads_of(told, purse), treads_of(web, purse))

    def test_refusals(self):
        for taking in WRONG_TAKINGS:
            self.assertEqual(refusal(taking_reordered, diamond(), ORDER, taking), ("NoTaking",))
        for way, at in ((None, None), ((0, 1), None), ([], 0), ([0], 1), ([0, 3], 1), ([0, 1, 3], 2), ([True, 1], 0)):
            self.assertEqual(refusal(way_reordered, diamond(), ORDER, way), ("NoWay", at))
        for way, at in ((None, None), ((0, 1), None), ("01", None), ([0, "1"], 1), ([True], 0), ([0, -1], 1)):
            self.assertEqual(refusal(way_turned, way), ("NoWay", at))

    def test_what_is_told_is_the_askers_own(self):
        prices, way, taking = least_way(diamond(), [])[2], [0, 4, 3], [0, 4]
        cases = ("way", [0, 1], [(1, ("way", [0, 4, 3], [(4, ("way", [2, 3], []))]))])
        things = (diamond(), list(NAMES), list(ORDER), prices, way, taking, cases)
        ahead = deep(things)
        for k in range(2):
            for told in (prices_renamed(things[0], things[1], prices), prices_scaled(prices, (1, 1)),
                         taking_reordered(things[0], things[2], taking), way_reordered(things[0], things[2], way),
                         way_turned(way)):
                self.assertTrue(is_askers_own(told, things))
                self.assertNotEqual(len(told), 0)
                told.clear()
            told = cases_reordered(things[0], things[2], cases)
            self.assertTrue(is_askers_own(told, things))
            told[2][0][1][1].clear()
            told[1].clear()
            told[2].clear()
        self.assertEqual(things, ahead)


if __name__ == "__main__":
    unittest.main()
