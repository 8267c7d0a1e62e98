import random
import unittest
from fractions import Fraction

from farthestcut.mixes import claim_of_mix, load_of, look_at_mix
from helper import (
    BAD_WEB, WRONG_NUMBERS, WRONG_PURSES, WRONG_WEBS, Prickly, all_ways, deep, diamond, is_askers_own, mix_claim,
    odd_things, pair, refusal, size, some_mix, some_ratio, some_webs, tie, wrong_lists,
)

LONG = 10 ** 60 - 1
ZERO = (0, 1)
ADDS = [(1, 1), (2, 1), (1, 2), (7, 1), (1, 6)]
MIX = [([0, 1], (1, 2)), ([2, 3], (1, 3)), ([0, 4, 3], (1, 6))]


class TestLook(unittest.TestCase):
    def at(self, thing, web=None):
        return refusal(look_at_mix, diamond() if web is None else web, thing)

    def test_of_one_way_and_of_several(self):
        for way in all_ways(diamond()):
            self.assertIsNone(look_at_mix(diamond(), [(way, (1, 1))]))
        self.assertIsNone(look_at_mix(diamond(), MIX))
        self.assertIsNone(look_at_mix(diamond(), [(way, (1, 4)) for way in all_ways(diamond())]))

    def test_shares_that_come_to_a_little_more_or_less(self):
        for little in (Fraction(1, LONG), Fraction(-1, LONG)):
            for number in range(3):
                mix = list(MIX)
                mix[number] = (mix[number][0], pair(Fraction(*mix[number][1]) + little))
                self.assertEqual(self.at(mix), ("NoMix", None))
            self.assertEqual(self.at([([0, 1], pair(1 + little))]), ("NoMix", None))
        self.assertEqual(self.at(MIX[:2]), ("NoMix", None))
        self.assertEqual(self.at([([0, 1], (2, 1))]), ("NoMix", None))

    def test_of_no_ways(self):
        self.assertEqual(self.at([]), ("NoMix", None))
        self.assertEqual(self.at([], (["a", "b"], [], "a", "b")), ("NoMix", None))

    def test_shares_that_are_none(self):
        for number in range(3):
            for share in (ZERO, (-1, 2), (-1, LONG), (2, 4), (3, 3), (0, 2), (1, 0), (1, -1), 1, True, None, "1", [1, 2],
                          (1,), (), (True, 1), (1, True), (1, 2, 3), {}, Prickly()):
                mix = list(MIX)
                mix[number] = (mix[number][0], share)
                self.assertEqual(self.at(mix), ("NoMix", number))

    def test_ways_that_are_none(self):
        for number in range(3):
            for way in ([], [0], [0, 3], [0, 1, 3], [1, 0], [0, 0], [True, 1], ["0", 1], (0, 1), None, {}, "01", [5], [-1],
                        [0, Prickly()], Prickly(), 0):
                mix = list(MIX)
                mix[number] = (way, mix[number][1])
                self.assertEqual(self.at(mix), ("NoMix", number))

    def test_a_way_told_twice(self):
        self.assertEqual(self.at([([0, 1], (1, 2)), ([0, 1], (1, 2))]), ("NoMix", 1))
        self.assertEqual(self.at([([0, 1], (1, 2)), ([2, 3], (1, 4)), ([0, 1], (1, 4))]), ("NoMix", 2))
        self.assertEqual(self.at([([0, 1], (1, 2)), ([2, 3], (1, 4)), ([2, 3], (1, 4)), ([0, 1], (1, 4))]),
                         ("NoMix", 2))

    def test_ties_beside_one_another_make_unlike_ways(self):
        web = (["a", "b"], [tie("a", "b"), tie("a", "b")], "a", "b")
        self.assertIsNone(look_at_mix(web, [([0], (1, 2)), ([1], (1, 2))]))

    def test_things_that_are_no_tuples_of_two(self):
        for number in range(3):
            for thing in ([[0, 1], (1, 1)], ([0, 1],), ([0, 1], (1, 6), None), (), None, [], "ab", 1, {}, Prickly()):
                mix = list(MIX)
                mix[number] = thing
                self.assertEqual(self.at(mix), ("NoMix", number))

    def test_the_first_that_is_not_so(self):
        wrong = [(None, (1, 2)), ([2, 3], ZERO), None]
        for number in range(3):
            self.assertEqual(self.at(MIX[:number] + wrong[number:]), ("NoMix", number))

    def test_no_list(self):
        for thing in odd_things() + [tuple(MIX), dict(enumerate(MIX)), MIX[0], Prickly()]:
            told = self.at(thing)
            number = 0 if isinstance(thing, list) else None
            self.assertEqual(told, ("NoMix", number))


class TestLoad(unittest.TestCase):
    def test_ties_of_several_ways_and_of_none(self):
        self.assertEqual(load_of(diamond(), MIX), [(2, 3), (1, 2), (1, 3), (1, 2), (1, 6)])
        self.assertEqual(load_of(diamond(), [([0, 1], (1, 1))]), [(1, 1), (1, 1), ZERO, ZERO, ZERO])
        self.assertEqual(load_of(diamond(), [([2, 3], (1, 2)), ([0, 4, 3], (1, 2))]),
                         [(1, 2), ZERO, (1, 2), (1, 1), (1, 2)])

    def test_on_small_webs(self):
        chance = random.Random(121)
        seen = 0
        for web in some_webs(121, 80):
            mix = some_mix(chance, web)
            if mix is not None:
                seen += 1
                right = [sum((Fraction(*share) for way, share in mix if number in way), Fraction(0))
                         for number in range(len(web[1]))]
                self.assertEqual(load_of(web, mix), [pair(one) for one in right])
        self.assertGreater(seen, 30)

    def test_refusals(self):
        for web in WRONG_WEBS:
            self.assertEqual(refusal(load_of, web, None), BAD_WEB)
            self.assertEqual(refusal(look_at_mix, web, None), BAD_WEB)
            self.assertEqual(refusal(look_at_mix, web, MIX), BAD_WEB)
        for mix, at in ((None, None), ([], None), (MIX[:2], None), (MIX + MIX, 3), ([MIX[0], None], 1)):
            self.assertEqual(refusal(load_of, diamond(), mix), ("NoMix", at))


class TestClaim(unittest.TestCase):
    def test_at_rate_nought(self):
        one = [([0, 1], (1, 1))]
        self.assertEqual(claim_of_mix(diamond(), ADDS, (5, 1), one, ZERO), (6, 1))
        self.assertEqual(claim_of_mix(diamond(), [ZERO] * 5, (5, 1), one, ZERO), (3, 1))
        self.assertEqual(claim_of_mix(diamond(), ADDS, ZERO, one, ZERO), (6, 1))

    def test_a_rate_that_makes_worth_times_it_just_the_load(self):
        one = [([0, 1], (1, 1))]
        self.assertEqual(claim_of_mix(diamond(), ADDS, (5, 1), one, (1, 1)), (9, 1))
        self.assertEqual(claim_of_mix(diamond(), ADDS, (5, 1), one, (2, 1)), (13, 1))
        self.assertEqual(claim_of_mix(diamond(), ADDS, (5, 1), one, (1, 2)), (15, 2))
        little = Fraction(1, LONG)
        self.assertEqual(claim_of_mix(diamond(), ADDS, ZERO, one, pair(1 - little)), pair(4 + little * 2))
        self.assertEqual(claim_of_mix(diamond(), ADDS, ZERO, one, pair(1 + little)), pair(4 - little))

    def test_far_beyond(self):
        one = [([0, 1], (1, 1))]
        self.assertEqual(claim_of_mix(diamond(), ADDS, ZERO, one, (2, 1)), (3, 1))
        self.assertEqual(claim_of_mix(diamond(), ADDS, ZERO, one, (LONG, 1)), (3, 1))
        self.assertEqual(claim_of_mix(diamond(), ADDS, (1, LONG), one, (LONG, 1)), (4, 1))

    def test_watched_ties_have_no_add(self):
        watched = [([2, 3], (1, 1))]
        self.assertEqual(claim_of_mix(diamond(), ADDS, ZERO, watched, ZERO), (9, 2))
        self.assertEqual(claim_of_mix(diamond(), [ZERO, ZERO, ZERO, (LONG, 1), ZERO], ZERO, watched, ZERO), (4, 1))

    def test_on_small_webs(self):
        chance = random.Random(122)
        seen = 0
        for web in some_webs(122, 80):
            adds = [some_ratio(chance) for one in web[1]]
            mix = some_mix(chance, web)
            if mix is not None:
                for k in range(3):
                    seen += 1
                    purse, rate = some_ratio(chance), some_ratio(chance)
                    told = claim_of_mix(web, adds, purse, mix, rate)
                    self.assertEqual(told, pair(mix_claim(web, adds, purse, mix, rate)))
        self.assertGreater(seen, 100)

    def test_no_less_than_any_one_way_at_nought(self):
        for way in all_ways(diamond()):
            told = claim_of_mix(diamond(), [ZERO] * 5, ZERO, [(way, (1, 1))], ZERO)
            self.assertEqual(told, pair(size(diamond(), way)))

    def test_order_of_refusals(self):
        for web in WRONG_WEBS:
            self.assertEqual(refusal(claim_of_mix, web, None, None, None, None), BAD_WEB)
            self.assertEqual(refusal(claim_of_mix, web, ADDS, ZERO, MIX, ZERO), BAD_WEB)
        for adds in wrong_lists(ADDS):
            self.assertEqual(refusal(claim_of_mix, diamond(), adds, None, None, None), ("NoAdds",))
            self.assertEqual(refusal(claim_of_mix, diamond(), adds, ZERO, MIX, ZERO), ("NoAdds",))
        for purse in WRONG_PURSES + (Prickly(),):
            self.assertEqual(refusal(claim_of_mix, diamond(), ADDS, purse, None, None), ("NoPurse",))
            self.assertEqual(refusal(claim_of_mix, diamond(), ADDS, purse, MIX, ZERO), ("NoPurse",))
        for mix, at in ((None, None), (MIX[:2], None), ([MIX[0], MIX[0]], 1), ([None], 0)):
            for rate in (None, ZERO, (-1, 1)):
                self.assertEqual(refusal(claim_of_mix, diamond(), ADDS, ZERO, mix, rate), ("NoMix", at))
        for rate in WRONG_NUMBERS + (Prickly(),):
            self.assertEqual(refusal(claim_of_mix, diamond(), ADDS, ZERO, MIX, rate), ("NoNumber",))

    def test_what_is_handed_in_stays(self):
        things = (diamond(), list(ADDS), (1, 1), deep(MIX), (1, 2))
        picture = deep(things)
        for k in range(2):
            self.assertEqual(claim_of_mix(*things), claim_of_mix(*picture))
            self.assertTrue(is_askers_own(load_of(things[0], things[3]), things))
        self.assertEqual(things, picture)
        told = load_of(things[0], things[3])
        told.clear()
        self.assertEqual(load_of(things[0], things[3]), load_of(diamond(), MIX))


if __name__ == "__main__":
    unittest.main()
