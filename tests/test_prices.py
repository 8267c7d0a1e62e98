import random
import unittest
from fractions import Fraction

from farthestcut.prices import least_way, lets_prices
from farthestcut.ways import length_of, look_at_way
from helper import (
    Prickly, all_takings, deep, diamond, is_askers_own, least_size, odd_things, pair, refusal, some_ratio, some_webs,
    tie,
)

LONG = 10 ** 60 - 1
BAD_WEB = ("NoWeb", "web", None)
RIGHT = {"a": (0, 1), "b": (1, 1), "c": (4, 3), "d": (3, 1)}


def with_price(prices, place, price):
    told = dict(prices)
    told[place] = price
    return told


def one_way_web():
    return (["a", "b", "c"], [tie("a", "b"), tie("b", "c"), tie("c", "a")], "a", "c")


class TestLets(unittest.TestCase):
    def test_the_least_ones(self):
        self.assertIs(lets_prices(diamond(), [], RIGHT), True)

    def test_right_ones_that_are_not_the_least(self):
        for prices in (
            {"a": (0, 1), "b": (0, 1), "c": (0, 1), "d": (0, 1)},
            {"a": (0, 1), "b": (1, 2), "c": (5, 6), "d": (5, 2)},
            {"a": (0, 1), "b": (2, 3), "c": (1, 1), "d": (0, 1)},
        ):
            self.assertIs(lets_prices(diamond(), [], prices), True)

    def test_one_price_more(self):
        small = Fraction(1, 10 ** 20)
        for place in ("b", "c", "d"):
            price = pair(Fraction(*RIGHT[place]) + small)
            self.assertIs(lets_prices(diamond(), [], with_price(RIGHT, place, price)), False)

    def test_one_price_less(self):
        web = one_way_web()
        self.assertIs(lets_prices(web, [], {"a": (0, 1), "b": (1, 1), "c": (2, 1)}), True)
        self.assertIs(lets_prices(web, [], {"a": (0, 1), "b": (1, 2), "c": (2, 1)}), False)
        self.assertIs(lets_prices(web, [], {"a": (0, 1), "b": (1, 1), "c": (1, 2)}), True)

    def test_wrong_price_of_any_kind(self):
        for place in RIGHT:
            for price in (None, (-1, 1), (2, 2), (0, 2), (0, -1), 0, 1, "0", [0, 1], True, (0,), (0, 1, 1), (False, 1),
                          (0, True), (), {}, Prickly()):
                with self.subTest(place=place, price=repr(price)):
                    self.assertIs(lets_prices(diamond(), [], with_price(RIGHT, place, price)), False)

    def test_below_nought_where_no_tie_leads(self):
        web = (["a", "b", "c"], [tie("a", "b")], "a", "b")
        prices = {"a": (0, 1), "b": (1, 1), "c": None}
        self.assertIs(lets_prices(web, [], prices), True)
        self.assertIs(lets_prices(web, [], with_price(prices, "c", (99, 1))), True)
        self.assertIs(lets_prices(web, [], with_price(prices, "c", (-1, 1))), False)
        self.assertIs(lets_prices(web, [], with_price(prices, "c", (2, 2))), False)
        self.assertIs(lets_prices(web, [], with_price(prices, "c", 1)), False)

    def test_the_price_of_first(self):
        web = (["a", "b"], [], "a", "b")
        self.assertIs(lets_prices(web, [], {"a": (0, 1), "b": None}), True)
        for price in ((1, 1), (1, LONG), None, (-1, 1), 0):
            self.assertIs(lets_prices(web, [], {"a": price, "b": None}), False)
            self.assertIs(lets_prices(web, [], {"a": price, "b": (0, 1)}), False)

    def test_just_the_places(self):
        for place in RIGHT:
            prices = dict(RIGHT)
            del prices[place]
            self.assertIs(lets_prices(diamond(), [], prices), False)
            prices["e"] = RIGHT[place]
            self.assertIs(lets_prices(diamond(), [], prices), False)
            self.assertIs(lets_prices(diamond(), [], dict(RIGHT, e=None)), False)
        for key in ("", "A", 0, None, ("a",), True):
            self.assertIs(lets_prices(diamond(), [], with_price(RIGHT, key, (0, 1))), False)

    def test_keys_in_another_order(self):
        self.assertIs(lets_prices(diamond(), [], {place: RIGHT[place] for place in "dbca"}), True)

    def test_no_dict(self):
        for thing in odd_things() + [list(RIGHT), list(RIGHT.items()), tuple(RIGHT.items()), set(RIGHT), "abcd"]:
            self.assertIs(lets_prices(diamond(), [], thing), False)

    def test_both_each_way_about(self):
        for ends in (("b", "c"), ("c", "b")):
            web = (["a", "b", "c"], [tie(*ends, "both", (1, 1)), tie("a", "b"), tie("a", "c")], "a", "c")
            far = {"b": (0, 1), "c": (1, 1), "a": (0, 1)}
            self.assertIs(lets_prices(web, [], far), True)
            web = (["a", "b", "c"], [tie(*ends, "both", (1, 2))], "a", "c")
            for prices, told in (
                ({"a": (0, 1), "b": (1, 2), "c": (1, 1)}, True), ({"a": (0, 1), "b": (1, 1), "c": (1, 2)}, True),
                ({"a": (0, 1), "b": (1, 3), "c": (1, 1)}, False), ({"a": (0, 1), "b": (1, 1), "c": (1, 3)}, False),
                ({"a": (0, 1), "b": None, "c": (1, 1)}, False), ({"a": (0, 1), "b": (1, 1), "c": None}, False),
                ({"a": (0, 1), "b": None, "c": None}, True),
            ):
                with self.subTest(ends=ends, prices=prices):
                    self.assertIs(lets_prices(web, [], prices), told)

    def test_one_is_asked_one_way_about(self):
        web = (["a", "b", "c"], [tie("b", "c", "one", (1, 2))], "a", "c")
        self.assertIs(lets_prices(web, [], {"a": (0, 1), "b": (9, 1), "c": (1, 2)}), True)
        self.assertIs(lets_prices(web, [], {"a": (0, 1), "b": (0, 1), "c": (1, 1)}), False)
        self.assertIs(lets_prices(web, [], {"a": (0, 1), "b": None, "c": (0, 1)}), True)
        self.assertIs(lets_prices(web, [], {"a": (0, 1), "b": (0, 1), "c": None}), False)

    def test_a_taken_tie_asks_nothing(self):
        none = {"a": (0, 1), "b": None, "c": None, "d": None}
        self.assertIs(lets_prices(diamond(), [0, 2], none), True)
        self.assertIs(lets_prices(diamond(), [0], none), False)
        self.assertIs(lets_prices(diamond(), [2], none), False)
        far = {"a": (0, 1), "b": (11, 6), "c": (3, 2), "d": (23, 6)}
        self.assertIs(lets_prices(diamond(), [0], far), True)
        self.assertIs(lets_prices(diamond(), [], far), False)

    def test_a_claim_is_never_above_the_least_way(self):
        chance = random.Random(3)
        seen = 0
        for web in some_webs(3, 60, 4, 5):
            least = least_size(web)
            for k in range(60):
                prices = {place: chance.choice((None, some_ratio(chance))) for place in web[0]}
                prices[web[2]] = (0, 1)
                if lets_prices(web, [], prices):
                    seen += 1
                    claim = prices[web[3]]
                    if least is not None:
                        self.assertIsNotNone(claim)
                        self.assertLessEqual(Fraction(*claim), least)
        self.assertGreater(seen, 200)


class TestLeast(unittest.TestCase):
    def check(self, web, taking):
        told = least_way(web, taking)
        self.assertIs(told.__class__, tuple)
        way, length, prices = told
        self.assertEqual(length, pair(least_size(web, taking)))
        self.assertIs(lets_prices(web, taking, prices), True)
        self.assertEqual(prices[web[3]], length)
        if length is None:
            self.assertIsNone(way)
        else:
            self.assertIsNone(look_at_way(web, taking, way))
            self.assertEqual(length_of(web, way), length)
        self.assertTrue(is_askers_own(told, (web, taking)))
        self.assertEqual(least_way(web, taking), told)

    def test_with_and_without_a_taking(self):
        self.assertEqual(least_way(diamond(), [])[:2], ([0, 1], (3, 1)))
        self.assertEqual(least_way(diamond(), [1])[:2], ([0, 4, 3], (23, 6)))
        self.assertEqual(least_way(diamond(), [1, 4])[:2], ([2, 3], (4, 1)))
        self.assertEqual(least_way(diamond(), [0, 2])[:2], (None, None))
        for taking in ([], [0], [1], [1, 4], [0, 2], [0, 1, 2, 4]):
            self.check(diamond(), taking)

    def test_lengths_of_nought(self):
        zero = (0, 1)
        ties = [tie("a", "b", "both", zero), tie("b", "c", "both", zero), tie("c", "a", "both", zero),
                tie("c", "d", "both", zero), tie("d", "b", "both", zero)]
        for ends in (("a", "d"), ("d", "a"), ("b", "c")):
            web = (["d", "c", "b", "a"], ties, ends[0], ends[1])
            self.check(web, [])
            self.check(web, [2])
            self.check(web, [0, 3])

    def test_several_between_the_same_places(self):
        web = (["a", "b"], [tie("a", "b", "one", (3, 1)), tie("b", "a", "both", (1, 2)), tie("a", "b", "one", (1, 3)),
                            tie("b", "a", "one", (0, 1))], "a", "b")
        self.assertEqual(least_way(web, [])[:2], ([2], (1, 3)))
        self.assertEqual(least_way(web, [2])[:2], ([1], (1, 2)))
        self.assertEqual(least_way(web, [1, 2])[:2], ([0], (3, 1)))
        self.assertEqual(least_way(web, [0, 1, 2])[:2], (None, None))

    def test_without_a_way(self):
        self.assertEqual(least_way((["a", "b"], [], "a", "b"), []), (None, None, {"a": (0, 1), "b": None}))
        self.check((["a", "b"], [tie("b", "a")], "a", "b"), [])
        self.check((["a", "b", "c"], [tie("a", "b"), tie("c", "b")], "a", "c"), [])

    def test_of_long_numbers(self):
        ties = [tie("a", "b", "one", (LONG - k, LONG - k - 1)) for k in range(0, 12, 2)]
        ties += [tie("b", "c", "both", (1, LONG - k)) for k in range(0, 16, 2)]
        web = (["a", "b", "c"], ties, "a", "c")
        self.check(web, [])
        self.check(web, [0, 1, 6])

    def test_on_small_webs(self):
        for web in some_webs(11, 120):
            for taking in all_takings(web, (3, 1)):
                self.check(web, taking)

    def test_on_webs_of_full_size(self):
        for web in some_webs(12, 25, 7, 14):
            self.check(web, [])

    def test_what_is_told_changes_nothing(self):
        web, taking = diamond(), [4]
        others = deep((web, taking))
        told = least_way(web, taking)
        picture = deep(told)
        told[0].append(9)
        told[2].clear()
        self.assertEqual((web, taking), others)
        self.assertEqual(least_way(web, taking), picture)
        told = least_way(web, taking)
        web[1].clear()
        taking.clear()
        self.assertEqual(told, picture)


class TestOrder(unittest.TestCase):
    def test_order_of_refusals(self):
        for web in (None, (), ["a"]):
            self.assertEqual(refusal(lets_prices, web, None, None), BAD_WEB)
            self.assertEqual(refusal(lets_prices, web, [], RIGHT), BAD_WEB)
            self.assertEqual(refusal(least_way, web, None), BAD_WEB)
        for taking in (None, [3], [1, 0], [True], (0,), [5]):
            self.assertEqual(refusal(lets_prices, diamond(), taking, None), ("NoTaking",))
            self.assertEqual(refusal(lets_prices, diamond(), taking, RIGHT), ("NoTaking",))
            self.assertEqual(refusal(least_way, diamond(), taking), ("NoTaking",))

    def test_what_is_handed_in_stays(self):
        for prices in (dict(RIGHT), {}, {"a": None}, with_price(RIGHT, "d", (9, 1))):
            self.assertIsNone(refusal(lets_prices, diamond(), [1], prices))
        self.assertIsNone(refusal(least_way, diamond(), [1]))


if __name__ == "__main__":
    unittest.main()
