import random
import unittest
from fractions import Fraction

from farthestcut.longer import least_longer, lets_longer_prices, longer_length
from farthestcut.prices import lets_prices
from helper import (
    BAD_WEB, WRONG_TAKINGS, WRONG_WEBS, Prickly, all_takings, all_ways, deep, diamond, is_askers_own, least_size,
    lengthened, odd_things, pair, refusal, size, some_ratio, some_webs, tie, wrong_lists,
)

LONG = 10 ** 60 - 1
ZERO = (0, 1)
ADDS = [(1, 1), (2, 1), (1, 2), (7, 1), (1, 6)]
RIGHT = {"a": (0, 1), "b": (2, 1), "c": (3, 2), "d": (4, 1)}


def with_price(prices, place, price):
    told = dict(prices)
    told[place] = price
    return told


def priced(web, adds, lengthening):
    """The prices of all places as lengthened, by going through all ways to each."""
    long = lengthened(web, adds, lengthening)
    told = {}
    for place in web[0]:
        told[place] = ZERO if place == web[2] else pair(least_size(long[:3] + (place,)))
    return told


class TestLength(unittest.TestCase):
    def test_with_some_of_its_ties(self):
        for lengthening, length in (([], (3, 1)), ([0], (4, 1)), ([1], (5, 1)), ([0, 1], (6, 1)), ([2, 4], (3, 1)),
                                    ([0, 2, 4], (4, 1)), ([0, 1, 2, 4], (6, 1))):
            self.assertEqual(longer_length(diamond(), ADDS, lengthening, [0, 1]), length)
        self.assertEqual(longer_length(diamond(), ADDS, [0, 4], [0, 4, 3]), (5, 1))
        self.assertEqual(longer_length(diamond(), ADDS, [1, 2, 4], [2, 4, 1]), (13, 2))

    def test_adds_of_nought(self):
        for way in all_ways(diamond()):
            self.assertEqual(longer_length(diamond(), [ZERO] * 5, [0, 1, 2, 4], way), pair(size(diamond(), way)))

    def test_on_small_webs(self):
        chance = random.Random(91)
        for web in some_webs(91, 60):
            adds = [some_ratio(chance) for one in web[1]]
            lengthening = chance.choice(all_takings(web, (9, 1)))
            for way in all_ways(web):
                right = size(lengthened(web, adds, lengthening), way)
                self.assertEqual(longer_length(web, adds, lengthening, way), pair(right))

    def test_of_long_numbers(self):
        web = (["a", "b"], [tie("a", "b", "one", (1, LONG))], "a", "b")
        right = Fraction(1, LONG) + Fraction(LONG, LONG - 1)
        self.assertEqual(longer_length(web, [(LONG, LONG - 1)], [0], [0]), pair(right))

    def test_no_way(self):
        for way, at in ((None, None), ((0, 1), None), ([], 0), ([0], 1), ([1], 0), ([0, 1, 3], 2), ([0, True], 1),
                        ([5], 0), ([-1], 0), (Prickly(), None), ([Prickly()], 0)):
            self.assertEqual(refusal(longer_length, diamond(), ADDS, [0], way), ("NoWay", at))


class TestPrices(unittest.TestCase):
    def test_the_least_ones(self):
        self.assertEqual(priced(diamond(), ADDS, [0, 1]), dict(RIGHT, b=(11, 6)))
        self.assertIs(lets_longer_prices(diamond(), ADDS, [0, 1], dict(RIGHT, b=(11, 6))), True)
        self.assertIs(lets_prices(diamond(), [], dict(RIGHT, b=(11, 6))), False)
        self.assertIs(lets_longer_prices(diamond(), ADDS, [], dict(RIGHT, b=(11, 6))), False)

    def test_right_ones_that_are_not_the_least(self):
        for prices in ({place: ZERO for place in "abcd"}, {"a": ZERO, "b": (1, 1), "c": (4, 3), "d": (3, 1)},
                       {"a": ZERO, "b": (1, 1), "c": (1, 1), "d": ZERO}):
            self.assertIs(lets_longer_prices(diamond(), ADDS, [0, 1], prices), True)
            self.assertIs(lets_longer_prices(diamond(), ADDS, [], prices), True)

    def test_a_little_more(self):
        right = priced(diamond(), ADDS, [0, 1])
        for place in "bcd":
            price = pair(Fraction(*right[place]) + Fraction(1, LONG))
            self.assertIs(lets_longer_prices(diamond(), ADDS, [0, 1], with_price(right, place, price)), False)

    def test_of_all_that_is_none(self):
        right = priced(diamond(), ADDS, [0, 1])
        for place in right:
            for price in (None, (-1, 1), (2, 2), (0, 2), 0, "0", [0, 1], True, (0,), (False, 1), (), Prickly()):
                self.assertIs(lets_longer_prices(diamond(), ADDS, [0, 1], with_price(right, place, price)), False)
            fewer = {one: right[one] for one in right if one != place}
            self.assertIs(lets_longer_prices(diamond(), ADDS, [0, 1], fewer), False)
        self.assertIs(lets_longer_prices(diamond(), ADDS, [0, 1], dict(right, e=None)), False)
        self.assertIs(lets_longer_prices(diamond(), ADDS, [0, 1], with_price(right, "a", (1, LONG))), False)
        for thing in odd_things() + [list(right.items()), set(right)]:
            self.assertIs(lets_longer_prices(diamond(), ADDS, [0, 1], thing), False)

    def test_nothing_is_taken_away(self):
        none = {"a": ZERO, "b": None, "c": None, "d": None}
        self.assertIs(lets_longer_prices(diamond(), ADDS, [0, 2], none), False)

    def test_adds_of_nought(self):
        right = priced(diamond(), ADDS, [])
        self.assertIs(lets_longer_prices(diamond(), [ZERO] * 5, [0, 1, 2, 4], right), True)
        self.assertIs(lets_longer_prices(diamond(), [ZERO] * 5, [0, 1, 2, 4], priced(diamond(), ADDS, [0, 1])), False)

    def test_a_claim_is_never_above_the_least_way(self):
        chance = random.Random(92)
        seen = 0
        for web in some_webs(92, 60, 4, 5):
            adds = [some_ratio(chance) for one in web[1]]
            lengthening = chance.choice(all_takings(web, (9, 1)))
            least = least_size(lengthened(web, adds, lengthening))
            for k in range(40):
                prices = {place: chance.choice((None, some_ratio(chance))) for place in web[0]}
                prices[web[2]] = ZERO
                told = lets_longer_prices(web, adds, lengthening, prices)
                self.assertIs(told, lets_prices(lengthened(web, adds, lengthening), [], prices))
                if told and least is not None:
                    seen += 1
                    self.assertLessEqual(Fraction(*prices[web[3]]), least)
        self.assertGreater(seen, 60)


class TestLeast(unittest.TestCase):
    def check(self, web, adds, lengthening):
        ahead = deep((web, adds, lengthening))
        told = least_longer(web, adds, lengthening)
        self.assertIs(told.__class__, tuple)
        way, length, prices = told
        self.assertEqual(length, pair(least_size(lengthened(web, adds, lengthening))))
        self.assertIs(lets_longer_prices(web, adds, lengthening, prices), True)
        self.assertEqual(prices[web[3]], length)
        if length is None:
            self.assertIsNone(way)
        else:
            self.assertEqual(longer_length(web, adds, lengthening, way), length)
        self.assertTrue(is_askers_own(told, (web, adds, lengthening)))
        self.assertEqual((web, adds, lengthening), ahead)
        self.assertEqual(least_longer(web, adds, lengthening), told)

    def test_of_the_diamond(self):
        self.assertEqual(least_longer(diamond(), ADDS, [])[:2], ([0, 1], (3, 1)))
        self.assertEqual(least_longer(diamond(), ADDS, [1])[:2], ([0, 4, 3], (23, 6)))
        self.assertEqual(least_longer(diamond(), ADDS, [0, 1])[:2], ([2, 3], (4, 1)))
        self.assertEqual(least_longer(diamond(), ADDS, [0, 1, 2, 4])[:2], ([2, 3], (9, 2)))

    def test_without_a_way(self):
        for web in ((["a", "b"], [], "a", "b"), (["a", "b"], [tie("b", "a")], "a", "b")):
            self.check(web, [(1, 1)] * len(web[1]), list(range(len(web[1]))))
        self.assertEqual(least_longer((["a", "b"], [], "a", "b"), [], []), (None, None, {"a": ZERO, "b": None}))

    def test_adds_of_nought(self):
        self.assertEqual(least_longer(diamond(), [ZERO] * 5, [0, 1, 2, 4])[1], (3, 1))

    def test_on_small_webs(self):
        chance = random.Random(93)
        for web in some_webs(93, 100):
            adds = [some_ratio(chance) for one in web[1]]
            for lengthening in chance.choices(all_takings(web, (5, 1)), k=3):
                self.check(web, adds, lengthening)

    def test_what_is_told_changes_nothing(self):
        web, adds, lengthening = diamond(), list(ADDS), [1]
        told = least_longer(web, adds, lengthening)
        picture = deep(told)
        told[0].clear()
        told[2].clear()
        self.assertEqual((web, adds, lengthening), (diamond(), ADDS, [1]))
        told = least_longer(web, adds, lengthening)
        self.assertEqual(told, picture)
        web[1].clear()
        adds.clear()
        lengthening.clear()
        self.assertEqual(told, picture)


class TestOrder(unittest.TestCase):
    def test_order_of_refusals(self):
        for function, rest, right in ((longer_length, (None,), ([0, 1],)), (lets_longer_prices, (None,), (RIGHT,)),
                                      (least_longer, (), ())):
            for web in WRONG_WEBS:
                self.assertEqual(refusal(function, web, None, None, *rest), BAD_WEB)
                self.assertEqual(refusal(function, web, ADDS, [], *right), BAD_WEB)
            for adds in wrong_lists(ADDS):
                self.assertEqual(refusal(function, diamond(), adds, None, *rest), ("NoAdds",))
                self.assertEqual(refusal(function, diamond(), adds, [], *right), ("NoAdds",))
            for lengthening in WRONG_TAKINGS:
                self.assertEqual(refusal(function, diamond(), ADDS, lengthening, *rest), ("NoTaking",))
                self.assertEqual(refusal(function, diamond(), ADDS, lengthening, *right), ("NoTaking",))
            self.assertIsNone(refusal(function, diamond(), ADDS, [0, 4], *right))

    def test_adds_of_watched_ties_are_adds(self):
        self.assertIsNone(refusal(least_longer, diamond(), ADDS[:3] + [(LONG, 1)] + ADDS[4:], [0]))
        self.assertEqual(refusal(least_longer, diamond(), ADDS[:3] + [None] + ADDS[4:], [0]), ("NoAdds",))


if __name__ == "__main__":
    unittest.main()
