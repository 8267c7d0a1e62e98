import random
import unittest
from fractions import Fraction

from farthestcut.prices import lets_prices
from farthestcut.spreads import lets_spread_prices, look_at_spread
from helper import (
    BAD_WEB, WRONG_PURSES, WRONG_WEBS, Prickly, deep, diamond, least_size, made_longer, odd_things, pair, refusal,
    some_ratio, some_webs, spread_cost, tie, wrong_lists,
)

LONG = 10 ** 60 - 1
ZERO = (0, 1)
ADDS = [(1, 1), (2, 1), (1, 2), (7, 1), (1, 6)]
LITTLE = Fraction(1, 10 ** 30)


def expected(web, adds, purse, spread):
    """What the document says of a list of as many fractions."""
    for number, more in enumerate(spread):
        most = Fraction(0) if web[1][number][4] is None else Fraction(*adds[number])
        if not 0 <= Fraction(*more) <= most:
            return ("NoSpread", number)
    return ("NoSpread", None) if spread_cost(web, spread) > Fraction(*purse) else None


class TestSpread(unittest.TestCase):
    def test_spreads(self):
        for spread in ([ZERO] * 5, [(1, 2), (1, 1), ZERO, ZERO, ZERO], [(1, 3), ZERO, (1, 6), ZERO, (1, 7)]):
            self.assertIsNone(look_at_spread(diamond(), ADDS, (1, 1), spread))
        self.assertIsNone(look_at_spread((["a", "b"], [], "a", "b"), [], (0, 1), []))

    def test_just_at_their_adds_and_a_little_more(self):
        for number in (0, 1, 2, 4):
            spread = [ZERO] * 5
            spread[number] = ADDS[number]
            self.assertIsNone(look_at_spread(diamond(), ADDS, (9, 1), spread))
            spread[number] = pair(Fraction(*ADDS[number]) + LITTLE)
            self.assertEqual(refusal(look_at_spread, diamond(), ADDS, (9, 1), spread), ("NoSpread", number))
        whole = ADDS[:3] + [ZERO] + ADDS[4:]
        self.assertIsNone(look_at_spread(diamond(), ADDS, (9, 1), whole))

    def test_just_at_the_purse_and_a_little_more(self):
        for spread in ([(1, 1), ZERO, ZERO, ZERO, ZERO], [(1, 3), (2, 3), (1, 7), ZERO, (1, 11)],
                       [(1, 1), (2, 1), (1, 2), ZERO, (1, 6)]):
            at = spread_cost(diamond(), spread)
            self.assertIsNone(look_at_spread(diamond(), ADDS, pair(at), spread))
            self.assertIsNone(look_at_spread(diamond(), ADDS, pair(at + LITTLE), spread))
            self.assertEqual(refusal(look_at_spread, diamond(), ADDS, pair(at - LITTLE), spread), ("NoSpread", None))
        self.assertEqual(spread_cost(diamond(), [(1, 1), (2, 1), (1, 2), ZERO, (1, 6)]), Fraction(55, 18))

    def test_watched_ties(self):
        for more in ((1, 1), (7, 1), (1, LONG), (-1, 1)):
            self.assertEqual(refusal(look_at_spread, diamond(), ADDS, (9, 1), [ZERO, ZERO, ZERO, more, ZERO]),
                             ("NoSpread", 3))

    def test_below_nought(self):
        for number in range(5):
            spread = [ZERO] * 5
            spread[number] = (-1, LONG)
            self.assertEqual(refusal(look_at_spread, diamond(), ADDS, (9, 1), spread), ("NoSpread", number))

    def test_of_another_kind(self):
        for number in range(5):
            for thing in (None, 0, 1, True, "0", [0, 1], (0,), (0, 2), (2, 4), (1, 0), (1, -1), (0, 1, 1), (False, 1),
                          (0, True), (), {}, Prickly()):
                spread = [ZERO] * 5
                spread[number] = thing
                self.assertEqual(refusal(look_at_spread, diamond(), ADDS, (9, 1), spread), ("NoSpread", number))

    def test_the_first_that_is_not_so(self):
        wrong = [(9, 1), None, (-1, 1), (1, 1), (1, 5)]
        for number in range(5):
            spread = [ZERO] * number + wrong[number:]
            self.assertEqual(refusal(look_at_spread, diamond(), ADDS, (9, 1), spread), ("NoSpread", number))

    def test_one_that_is_not_so_ahead_of_the_sum(self):
        self.assertEqual(refusal(look_at_spread, diamond(), ADDS, (0, 1), [(1, 1), ZERO, ZERO, ZERO, (1, 5)]),
                         ("NoSpread", 4))
        self.assertEqual(refusal(look_at_spread, diamond(), ADDS, (0, 1), [(1, 1), ZERO, ZERO, ZERO, (1, 7)]),
                         ("NoSpread", None))

    def test_no_list_of_as_many(self):
        right = [ZERO] * 5
        for thing in odd_things() + [right[:4], right + [ZERO], tuple(right), [None] * 4, [(9, 1)] * 6,
                                     dict(enumerate(right)), "00000", Prickly()]:
            self.assertEqual(refusal(look_at_spread, diamond(), ADDS, (9, 1), thing), ("NoSpread", None))

    def test_adds_of_nought_and_of_sixty_figures(self):
        self.assertIsNone(look_at_spread(diamond(), [ZERO] * 5, (9, 1), [ZERO] * 5))
        self.assertEqual(refusal(look_at_spread, diamond(), [ZERO] * 5, (9, 1), [ZERO] * 4 + [(1, LONG)]),
                         ("NoSpread", 4))
        ties = [tie("a", "b", "one", (1, 1), (1, LONG)), tie("a", "b", "one", (1, 1), (1, LONG - 1))]
        web = (["a", "b"], ties, "a", "b")
        adds = [(LONG, 1), (LONG, 1)]
        self.assertIsNone(look_at_spread(web, adds, (2, 1), [(LONG, 1), (LONG - 1, 1)]))
        self.assertEqual(refusal(look_at_spread, web, adds, (2, 1), [(LONG, 1), (LONG, 1)]), ("NoSpread", None))

    def test_on_small_webs(self):
        chance = random.Random(111)
        seen = {"so": 0, "more": 0, "one": 0}
        for web in some_webs(111, 150):
            adds = [some_ratio(chance) for one in web[1]]
            for k in range(5):
                purse = some_ratio(chance)
                spread = [pair(Fraction(*add) * chance.choice((0, 0, Fraction(1, 2), 1))) for add in adds]
                if k == 4:
                    spread = [some_ratio(chance) for add in adds]
                right = expected(web, adds, purse, spread)
                seen["so" if right is None else "more" if right[1] is None else "one"] += 1
                self.assertEqual(refusal(look_at_spread, web, adds, purse, spread), right)
        self.assertGreater(min(seen.values()), 40, seen)


class TestPrices(unittest.TestCase):
    SPREAD = [(1, 2), (1, 1), ZERO, ZERO, ZERO]
    RIGHT = {"a": ZERO, "b": (3, 2), "c": (3, 2), "d": (4, 1)}

    def lets(self, thing, spread=None):
        return lets_spread_prices(diamond(), ADDS, (1, 1), self.SPREAD if spread is None else spread, thing)

    def test_the_least_ones(self):
        self.assertIs(self.lets(self.RIGHT), True)
        self.assertIs(self.lets(self.RIGHT, [ZERO] * 5), False)
        self.assertIs(lets_prices(diamond(), [], self.RIGHT), False)

    def test_right_ones_that_are_not_the_least(self):
        for prices in ({place: ZERO for place in "abcd"}, {"a": ZERO, "b": (1, 1), "c": (4, 3), "d": (7, 2)},
                       dict(self.RIGHT, d=ZERO)):
            self.assertIs(self.lets(prices), True)

    def test_a_little_more(self):
        for place in "bcd":
            prices = dict(self.RIGHT)
            prices[place] = pair(Fraction(*prices[place]) + LITTLE)
            self.assertIs(self.lets(prices), False)

    def test_of_all_that_is_none(self):
        for place in self.RIGHT:
            for price in (None, (-1, 1), (2, 2), (0, 2), 0, "0", [0, 1], True, (0,), (False, 1), (), Prickly()):
                prices = dict(self.RIGHT)
                prices[place] = price
                self.assertIs(self.lets(prices), False)
            prices = dict(self.RIGHT)
            del prices[place]
            self.assertIs(self.lets(prices), False)
        self.assertIs(self.lets(dict(self.RIGHT, e=None)), False)
        self.assertIs(self.lets(dict(self.RIGHT, a=(1, LONG))), False)
        for thing in odd_things() + [list(self.RIGHT.items())]:
            self.assertIs(self.lets(thing), False)

    def test_where_there_is_no_way(self):
        web = (["a", "b"], [tie("b", "a")], "a", "b")
        for prices, told in (({"a": ZERO, "b": None}, True), ({"a": ZERO, "b": (5, 1)}, True),
                             ({"a": None, "b": None}, False)):
            self.assertIs(lets_spread_prices(web, [(1, 1)], (1, 1), [(1, 1)], prices), told)

    def test_a_claim_is_never_above_the_least_way(self):
        chance = random.Random(112)
        seen = 0
        for web in some_webs(112, 60, 4, 5):
            adds = [some_ratio(chance) for one in web[1]]
            spread = [ZERO if one[4] is None else pair(Fraction(*add) / 2) for one, add in zip(web[1], adds)]
            purse = pair(spread_cost(web, spread))
            long = made_longer(web, [Fraction(*more) for more in spread])
            least = least_size(long)
            for k in range(40):
                prices = {place: chance.choice((None, some_ratio(chance))) for place in web[0]}
                prices[web[2]] = ZERO
                told = lets_spread_prices(web, adds, purse, spread, prices)
                self.assertIs(told, lets_prices(long, [], prices))
                if told and least is not None:
                    seen += 1
                    self.assertLessEqual(Fraction(*prices[web[3]]), least)
        self.assertGreater(seen, 60)


class TestOrder(unittest.TestCase):
    def test_order_of_refusals(self):
        right = [ZERO] * 5
        for web in WRONG_WEBS:
            self.assertEqual(refusal(look_at_spread, web, None, None, None), BAD_WEB)
            self.assertEqual(refusal(look_at_spread, web, ADDS, (0, 1), right), BAD_WEB)
            self.assertEqual(refusal(lets_spread_prices, web, None, None, None, None), BAD_WEB)
            self.assertEqual(refusal(lets_spread_prices, web, ADDS, (0, 1), right, {}), BAD_WEB)
        for adds in wrong_lists(ADDS):
            self.assertEqual(refusal(look_at_spread, diamond(), adds, None, None), ("NoAdds",))
            self.assertEqual(refusal(look_at_spread, diamond(), adds, (0, 1), right), ("NoAdds",))
            self.assertEqual(refusal(lets_spread_prices, diamond(), adds, None, None, None), ("NoAdds",))
            self.assertEqual(refusal(lets_spread_prices, diamond(), adds, (0, 1), right, {}), ("NoAdds",))
        for purse in WRONG_PURSES + (Prickly(),):
            self.assertEqual(refusal(look_at_spread, diamond(), ADDS, purse, None), ("NoPurse",))
            self.assertEqual(refusal(look_at_spread, diamond(), ADDS, purse, right), ("NoPurse",))
            self.assertEqual(refusal(lets_spread_prices, diamond(), ADDS, purse, None, None), ("NoPurse",))
            self.assertEqual(refusal(lets_spread_prices, diamond(), ADDS, purse, right, {}), ("NoPurse",))

    def test_no_spread_ahead_of_the_prices(self):
        for spread, at in ((None, None), ([ZERO] * 4, None), ([(9, 1)] * 5, 0), ([ZERO, (-1, 1), ZERO, ZERO, ZERO], 1),
                           ([ZERO, ZERO, ZERO, (1, 1), ZERO], 3), ([(1, 1), (2, 1), ZERO, ZERO, ZERO], None)):
            for thing in (None, {}, TestPrices.RIGHT, Prickly()):
                self.assertEqual(refusal(lets_spread_prices, diamond(), ADDS, (1, 1), spread, thing), ("NoSpread", at))

    def test_what_is_handed_in_stays(self):
        things = (diamond(), list(ADDS), (1, 1), list(TestPrices.SPREAD), dict(TestPrices.RIGHT))
        picture = deep(things)
        for k in range(2):
            self.assertIsNone(look_at_spread(*things[:4]))
            self.assertIs(lets_spread_prices(*things), True)
        self.assertEqual(things, picture)


if __name__ == "__main__":
    unittest.main()
