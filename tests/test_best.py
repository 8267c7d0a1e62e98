import random
import unittest
from fractions import Fraction

from farthestcut.best import best_taking
from farthestcut.cases import claim_of_cases
from farthestcut.prices import lets_prices
from farthestcut.takings import is_within, look_at_taking
from farthestcut.ways import length_of, look_at_way
from helper import (
    BAD_WEB, WRONG_PURSES, WRONG_WEBS, Prickly, all_sides, deep, diamond, full_web, greatest, is_askers_own, leads_out,
    lengths_left, most_at_a_time, pair, purses_around, refusal, some_webs, tie,
)

LONG = 10 ** 60 - 1


class Checked(unittest.TestCase):
    def check(self, web, purse):
        """What is told, held against all takings within the purse."""
        ahead = deep((web, purse))
        told = best_taking(web, purse)
        best = greatest(list(lengths_left(web, purse).values()))
        self.assertIs(told.__class__, tuple)
        self.assertIsNone(look_at_taking(web, told[1]))
        self.assertIs(is_within(web, told[1], purse), True)
        if best is None:
            self.check_cut(web, told)
        else:
            self.check_left(web, purse, told, pair(best))
        self.assertTrue(is_askers_own(told, (web, purse)))
        self.assertEqual((web, purse), ahead)
        self.assertEqual(best_taking(web, purse), told)
        return told

    def check_cut(self, web, told):
        word, taking, side = told
        self.assertEqual(word, "cut")
        self.assertIn(side, all_sides(web))
        for number, one in enumerate(web[1]):
            self.assertFalse(number not in taking and leads_out(one, side))

    def check_left(self, web, purse, told, length):
        word, taking, way, prices, cases = told
        self.assertEqual(word, "left")
        self.assertIsNone(look_at_way(web, taking, way))
        self.assertEqual(length_of(web, way), length)
        self.assertIs(lets_prices(web, taking, prices), True)
        self.assertEqual(prices[web[3]], length)
        self.assertEqual(claim_of_cases(web, purse, cases), length)


class TestTold(Checked):
    def test_of_the_diamond(self):
        self.assertEqual(best_taking(diamond(), (0, 1))[:3], ("left", [], [0, 1]))
        self.assertEqual(self.check(diamond(), (1, 3))[0], "left")
        self.assertEqual(self.check(diamond(), (1, 2))[1:3], ([1], [0, 4, 3]))
        self.assertEqual(self.check(diamond(), (5, 6))[1:3], ([1, 4], [2, 3]))
        self.assertEqual(self.check(diamond(), (7, 3))[0], "left")
        self.assertEqual(self.check(diamond(), (3, 1)), ("cut", [0, 2], ["a"]))

    def test_a_purse_of_nought(self):
        for web in some_webs(31, 40):
            told = self.check(web, (0, 1))
            self.assertEqual(told[1], [])
            if told[0] == "left":
                self.assertEqual(told[4], ("way", told[2], []))

    def test_without_a_way(self):
        for web in ((["a", "b"], [], "a", "b"), (["a", "b"], [tie("b", "a")], "a", "b"),
                    (["c", "b", "a"], [tie("a", "b", "both"), tie("c", "b")], "a", "c")):
            for purse in ((0, 1), (1, 1), (2, 1)):
                self.assertEqual(self.check(web, purse)[0], "cut")
        self.assertEqual(best_taking((["c", "b", "a"], [tie("a", "b", "both"), tie("c", "b")], "a", "c"), (0, 1))[2],
                         ["b", "a"])

    def test_a_side_in_the_webs_order(self):
        ties = [tie("a", "d", "both"), tie("d", "b", "one"), tie("b", "c", "one", (1, 1), (1, 2)), tie("c", "a", "one")]
        for places in (list("abcd"), list("dcba"), list("bdac")):
            told = self.check((places, ties, "a", "c"), (1, 2))
            self.assertEqual(told, ("cut", [2], [place for place in places if place != "c"]))

    def test_worths_just_at_the_purse_and_a_little_more(self):
        web = (["a", "b"], [tie("a", "b", "one", (k, 1), (1, k + 1)) for k in range(1, 5)], "a", "b")
        at = Fraction(1, 2) + Fraction(1, 3)
        little = Fraction(1, 10 ** 30)
        self.assertEqual(self.check(web, pair(at))[1:3], ([0, 1], [2]))
        self.assertEqual(self.check(web, pair(at + little))[1:3], ([0, 1], [2]))
        self.assertEqual(self.check(web, pair(at - little))[1:3], ([0], [1]))

    def test_watched_ties(self):
        web = (["a", "b"], [tie("a", "b", "one", (1, 1), None)] + [tie("a", "b", "one", (5, 1))] * 3, "a", "b")
        self.assertEqual(self.check(web, (3, 1))[2], [0])
        all_watched = (["a", "b"], [tie("a", "b", "both", (1, 2), None)] * 5, "a", "b")
        self.assertEqual(self.check(all_watched, (99, 1))[:2], ("left", []))

    def test_none_to_three_at_once(self):
        web = (["a", "b"], [tie("a", "b", "both", (k, 1)) for k in range(5)], "b", "a")
        for many in range(4):
            self.assertEqual(self.check(web, (many, 1))[1:3], (list(range(many)), [many]))
        cut = (["a", "b"], [tie("a", "b")] * 3, "a", "b")
        self.assertEqual(best_taking(cut, (3, 1)), ("cut", [0, 1, 2], ["a"]))
        self.assertEqual(self.check(cut, (2, 1))[0], "left")

    def test_not_the_greediest(self):
        """The tie that by itself does most is not in the best taking of two."""
        ties = [tie("a", "b", "one", (0, 1), (2, 1)), tie("b", "d", "one", (0, 1), (2, 1)),
                tie("a", "c", "one", (1, 1), (1, 1)), tie("c", "d", "one", (1, 1), (1, 1)),
                tie("b", "d", "one", (4, 1), (1, 1)), tie("a", "d", "one", (9, 1), None)]
        for purse in range(5):
            self.check((["a", "b", "c", "d"], ties, "a", "d"), (purse, 1))

    def test_long_numbers(self):
        ties = [tie("a", "b", "one", (LONG - k, LONG - k - 1), (1, LONG - k)) for k in range(0, 8, 2)]
        ties += [tie("b", "c", "both", (1, LONG - k), (LONG, 2)) for k in range(0, 8, 2)]
        web = (["a", "b", "c"], ties, "a", "c")
        at = Fraction(1, LONG) + Fraction(1, LONG - 2)
        self.assertEqual(len(self.check(web, pair(at))[1]), 2)
        self.check(web, pair(Fraction(3, LONG)))

    def test_on_small_webs(self):
        chance = random.Random(32)
        seen = {"left": 0, "cut": 0}
        for web in some_webs(32, 150):
            for purse in purses_around(chance, web):
                if most_at_a_time(web, purse) <= 3:
                    told = self.check(web, purse)
                    seen[told[0]] += 1 if told[1] else 0
        self.assertGreater(seen["left"], 60)
        self.assertGreater(seen["cut"], 60)

    def test_on_webs_of_full_size(self):
        for seed in range(6):
            self.check(full_web(seed), (3, 1))
            self.check(full_web(seed, ((1, 2), (2, 3), (2, 1), None)), (3, 2))
        for web in some_webs(33, 6, 7, 14):
            self.check(web, (1, 1))
        self.assertEqual((len(full_web(0)[0]), len(full_web(0)[1])), (7, 14))

    def test_a_web_of_full_size_with_three_at_once_and_ways_left(self):
        watched = full_web(3)[1][:12]
        ties = watched + [tie("a", "d", "both", (9, 1), None), tie("d", "g", "one", (9, 1), None)]
        told = self.check((list("gfedcba"), ties, "a", "g"), (3, 1))
        self.assertEqual(told[0], "left")

    def test_a_greater_purse_never_does_less(self):
        for web in some_webs(34, 40):
            lengths = []
            for top in range(8):
                purse = pair(Fraction(top, 2))
                if most_at_a_time(web, purse) <= 3:
                    told = best_taking(web, purse)
                    lengths.append(length_of(web, told[2]) if told[0] == "left" else None)
            for less, more in zip(lengths, lengths[1:]):
                self.assertTrue(more is None or (less is not None and Fraction(*less) <= Fraction(*more)))

    def test_what_is_told_changes_nothing(self):
        for purse in ((1, 2), (5, 6)):
            web = diamond()
            told = best_taking(web, purse)
            picture = deep(told)
            told[1].append(9)
            told[2].append(9)
            told[3].clear()
            told[4][1].append(9)
            told[4][2].clear()
            self.assertEqual(web, diamond())
            told = best_taking(web, purse)
            self.assertEqual(told, picture)
            web[0].clear()
            web[1].clear()
            self.assertEqual(told, picture)
        web = diamond()
        told = best_taking(web, (3, 1))
        told[1].clear()
        told[2].clear()
        self.assertEqual(best_taking(web, (3, 1)), ("cut", [0, 2], ["a"]))


class TestRefused(unittest.TestCase):
    def test_more_than_three_at_once(self):
        web = (["a", "b"], [tie("a", "b")] * 4, "a", "b")
        self.assertIsNone(refusal(best_taking, web, pair(4 - Fraction(1, LONG))))
        for purse in ((4, 1), (5, 1), (99, 2)):
            self.assertEqual(refusal(best_taking, web, purse), ("TooMany",))
        fewer = (["a", "b"], [tie("a", "b")] * 3, "a", "b")
        self.assertIsNone(refusal(best_taking, fewer, (99, 1)))

    def test_also_where_there_is_no_way(self):
        web = (["a", "b"], [tie("b", "a")] * 4, "a", "b")
        self.assertEqual(refusal(best_taking, web, (4, 1)), ("TooMany",))
        self.assertEqual(best_taking(web, (3, 1))[0], "cut")

    def test_order_of_refusals(self):
        many = (["a", "b"], [tie("a", "b")] * 4, "a", "b")
        for web in WRONG_WEBS + ((["a", "b"], [tie("a", "b")] * 4, "a", "b", "c"),):
            for purse in (None, (0, 1), (99, 1)):
                self.assertEqual(refusal(best_taking, web, purse), BAD_WEB)
        for purse in WRONG_PURSES + (Prickly(),):
            self.assertEqual(refusal(best_taking, diamond(), purse), ("NoPurse",))
            self.assertEqual(refusal(best_taking, many, purse), ("NoPurse",))


if __name__ == "__main__":
    unittest.main()
