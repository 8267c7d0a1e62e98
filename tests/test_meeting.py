import random
import unittest
from fractions import Fraction

from farthestcut.meeting import least_purse, meeting_of
from farthestcut.mixes import claim_of_mix, look_at_mix
from farthestcut.prices import least_way
from farthestcut.spreads import lets_spread_prices, look_at_spread
from helper import (
    BAD_WEB, WRONG_NUMBERS, WRONG_PURSES, WRONG_WEBS, Prickly, all_sides, all_ways, deep, diamond, full_web,
    is_askers_own, leads_out, least_size, made_longer, mix_claim, pair, refusal, some_mix, some_ratio, some_spread,
    some_webs, tie, wrong_lists,
)

LONG = 10 ** 60 - 1
ZERO = (0, 1)
LITTLE = Fraction(1, 10 ** 80)
ADDS = [(1, 1), (2, 1), (1, 2), (7, 1), (1, 6)]
WORTHS = ((1, 1), (1, 2), (5, 1), (2, 3), None)


def beside(lengths, worths):
    ties = [tie("a", "b", "one", (length, 1), worth) for length, worth in zip(lengths, worths)]
    return (["a", "b"], ties, "a", "b")


def cost_of_all(web, adds):
    return sum((Fraction(*one[4]) * Fraction(*add) for one, add in zip(web[1], adds) if one[4] is not None),
               Fraction(0))


def longest_of_all(web, adds):
    """The least way's length with all adds of ties that aren't watched."""
    more = [Fraction(0) if one[4] is None else Fraction(*add) for one, add in zip(web[1], adds)]
    return least_size(made_longer(web, more))


class MeetingCase(unittest.TestCase):
    def check(self, web, adds, purse):
        """What is told is what the document says; told is the number, or None."""
        ahead = deep((web, adds, purse))
        told = meeting_of(web, adds, purse)
        self.assertTrue(is_askers_own(told, (web, adds, purse)))
        self.assertEqual((web, adds, purse), ahead)
        self.assertEqual(meeting_of(web, adds, purse), told)
        self.assertIs(told.__class__, tuple)
        if all_ways(web):
            self.check_met(web, adds, purse, told)
            return told[1]
        word, side = told
        self.assertEqual(word, "none")
        self.assertIn(side, all_sides(web))
        self.assertFalse(any(leads_out(one, side) for one in web[1]))
        return None

    def check_met(self, web, adds, purse, told):
        word, number, spread, prices, mix, rate = told
        self.assertEqual(word, "met")
        self.assertIsNone(look_at_spread(web, adds, purse, spread))
        self.assertIs(lets_spread_prices(web, adds, purse, spread, prices), True)
        self.assertEqual(prices[web[3]], number)
        self.assertIsNone(look_at_mix(web, mix))
        self.assertEqual(claim_of_mix(web, adds, purse, mix, rate), number)
        self.assertEqual(mix_claim(web, adds, purse, mix, rate), Fraction(*number))


class TestMeeting(MeetingCase):
    def test_of_one_tie(self):
        web = beside([3], [(2, 1)])
        for purse, number in ((ZERO, (3, 1)), ((1, 1), (7, 2)), ((4, 1), (5, 1)), ((5, 1), (5, 1)), ((LONG, 1), (5, 1))):
            self.assertEqual(self.check(web, [(2, 1)], purse), number)

    def test_of_two_ties_beside_one_another(self):
        web = beside([1, 2], [(1, 1), (1, 1)])
        adds = [(5, 1), (5, 1)]
        for purse, number in ((ZERO, (1, 1)), ((1, 2), (3, 2)), ((1, 1), (2, 1)), ((2, 1), (5, 2)), ((3, 1), (3, 1)),
                              ((9, 1), (6, 1)), ((10, 1), (6, 1))):
            self.assertEqual(self.check(web, adds, purse), number)

    def test_of_two_ties_behind_one_another(self):
        ties = [tie("a", "b", "one", (1, 1), (1, 1)), tie("b", "c", "both", (1, 1), (2, 1))]
        web = (list("abc"), ties, "a", "c")
        for purse, number in ((ZERO, (2, 1)), ((1, 1), (3, 1)), ((2, 1), (7, 2)), ((7, 1), (6, 1)), ((8, 1), (6, 1))):
            self.assertEqual(self.check(web, [(1, 1), (3, 1)], purse), number)

    def test_purses_of_nought_and_of_all_and_more(self):
        for adds in (ADDS, [ZERO] * 5, [(LONG, 1)] * 5):
            self.assertEqual(self.check(diamond(), adds, ZERO), (3, 1))
            all_told = cost_of_all(diamond(), adds)
            for purse in (all_told, all_told + LITTLE, all_told * 2 + 1):
                self.assertEqual(self.check(diamond(), adds, pair(purse)), pair(longest_of_all(diamond(), adds)))
            for part in (Fraction(1, 7), Fraction(1, 2), Fraction(6, 7)):
                self.check(diamond(), adds, pair(all_told * part))

    def test_adds_of_nought(self):
        for purse in (ZERO, (1, 1), (LONG, 1)):
            self.assertEqual(self.check(diamond(), [ZERO] * 5, purse), (3, 1))
        web = beside([1, 2], [(1, 1), (1, 1)])
        self.assertEqual(self.check(web, [ZERO, (5, 1)], (9, 1)), (1, 1))
        self.assertEqual(self.check(web, [(5, 1), ZERO], (9, 1)), (2, 1))

    def test_watched_ties(self):
        web = beside([1, 2, 4], [(1, 1), (1, 1), None])
        self.assertEqual(self.check(web, [(9, 1)] * 3, (9, 1)), (4, 1))
        self.assertEqual(self.check(web, [(9, 1)] * 3, (1, 1)), (2, 1))
        web = beside([1, 2, 4], [None, None, None])
        self.assertEqual(self.check(web, [(9, 1)] * 3, (9, 1)), (1, 1))

    def test_ties_of_no_length(self):
        ties = [tie("a", "b", "both", ZERO), tie("b", "a", "both", ZERO), tie("b", "c", "both", ZERO),
                tie("c", "b", "both", ZERO, (2, 1)), tie("c", "d", "both", ZERO), tie("a", "d", "both", (1, 1))]
        web = (list("abcd"), ties, "a", "d")
        for purse in (ZERO, (1, 3), (1, 1), (5, 2), (4, 1), (99, 1)):
            for adds in ([(1, 1)] * 6, [(1, 1), ZERO, (2, 1), (1, 3), (5, 1), (7, 1)]):
                self.check(web, adds, purse)

    def test_what_was_carried_is_carried_otherwise(self):
        # As more is carried, ever less goes from b to c: first what is beyond that tie's worth, then the rest.
        for many in (1, 2, 3, 7):
            ties = [tie("a", "b", "one", ZERO, (many, 1)), tie("b", "c", "one", ZERO), tie("c", "d", "one", ZERO, (many, 1)),
                    tie("a", "c", "one", (5, 1), (many, 1)), tie("b", "d", "one", (5, 1), (many, 1))]
            web = (list("abcd"), ties, "a", "d")
            adds = [(100, 1), (1, 1), (100, 1), (100, 1), (100, 1)]
            numbers = [self.check(web, adds, (purse, 1)) for purse in range(0, 1500, 3)]
            self.assertEqual(numbers, sorted(numbers, key=lambda one: Fraction(*one)))
            # Nine a piece is claimed where the purse pays it for all that the first two ties carry; ten behind that.
            at = [least_purse(web, adds, (length, 1)) for length in (0, 1, 9, 10)]
            self.assertEqual(at, [ZERO, (1, 1), (8 * many + 1, 1), (10 * many, 1)])

    def test_long_numbers_beside_ones(self):
        web = beside([LONG, 1, LONG - 1], [(1, LONG), (LONG, 1), (1, 1)])
        adds = [(LONG, 1), (LONG, 2), (1, LONG)]
        for purse in (ZERO, (1, 1), (1, LONG), (LONG, 1), pair(Fraction(LONG) ** 2 / 2), pair(Fraction(LONG) ** 2)):
            self.check(web, adds, purse)
        number = self.check(beside([LONG], [(1, LONG)]), [(LONG, 1)], (1, 2))
        self.assertEqual(number, pair(Fraction(LONG) * 3 / 2))

    def test_without_a_way(self):
        for web, side in (((["a", "b"], [], "a", "b"), ["a"]), ((["a", "b"], [tie("b", "a")], "a", "b"), ["a"]),
                          ((["c", "b", "a"], [tie("a", "b", "both"), tie("c", "b")], "a", "c"), ["b", "a"])):
            for purse in (ZERO, (1, 1), (LONG, 1)):
                self.assertIsNone(self.check(web, [(1, 1)] * len(web[1]), purse))
                self.assertEqual(meeting_of(web, [(1, 1)] * len(web[1]), purse), ("none", side))

    def test_no_spread_above_and_no_mix_below(self):
        chance = random.Random(131)
        seen = 0
        for web in some_webs(131, 120):
            adds = [some_ratio(chance) for one in web[1]]
            for k in range(3):
                purse = some_ratio(chance)
                number = self.check(web, adds, purse)
                if number is not None:
                    seen += 1
                    self.hold(chance, web, adds, purse, Fraction(*number))
        self.assertGreater(seen, 100)

    def hold(self, chance, web, adds, purse, number):
        for k in range(6):
            spread = some_spread(chance, web, adds, purse)
            self.assertIsNone(look_at_spread(web, adds, purse, spread))
            self.assertLessEqual(least_size(made_longer(web, [Fraction(*more) for more in spread])), number)
            mix, rate = some_mix(chance, web), some_ratio(chance)
            self.assertGreaterEqual(Fraction(*claim_of_mix(web, adds, purse, mix, rate)), number)

    def test_a_web_of_full_size(self):
        chance = random.Random(132)
        for seed in range(12):
            web = full_web(seed, WORTHS)
            adds = [some_ratio(chance) for one in web[1]]
            all_told = cost_of_all(web, adds)
            for part in (0, Fraction(1, 50), Fraction(1, 9), Fraction(1, 2), 1):
                number = self.check(web, adds, pair(all_told * part))
                self.hold(chance, web, adds, pair(all_told * part), Fraction(*number))

    def test_webs_of_full_size_with_long_numbers(self):
        chance = random.Random(133)

        def any_ratio():
            return pair(Fraction(chance.randint(1, LONG), chance.choice((1, chance.randint(1, LONG)))))

        for seed in range(12):
            web = full_web(seed, WORTHS)
            ties = [one[:3] + (chance.choice((any_ratio(), (1, 1), ZERO)), chance.choice((any_ratio(), (1, 1), None)))
                    for one in web[1]]
            web = (web[0], ties, web[2], web[3])
            adds = [chance.choice((any_ratio(), (1, 1), ZERO)) for one in web[1]]
            for purse in (ZERO, (1, 1), any_ratio(), pair(cost_of_all(web, adds) / 3)):
                self.check(web, adds, purse)

    def test_turned_ties_and_more_of_a_greater_purse(self):
        chance = random.Random(134)
        for web in some_webs(134, 60):
            adds = [some_ratio(chance) for one in web[1]]
            numbers = [self.check(web, adds, (purse, 2)) if purse % 2 else self.check(web, adds, (purse // 2, 1))
                       for purse in range(6)]
            if None not in numbers:
                self.assertEqual(numbers, sorted(numbers, key=lambda one: Fraction(*one)))
                self.assertEqual(numbers[0], least_way(web, [])[1])

    def test_what_is_told_changes_nothing(self):
        web, adds = diamond(), list(ADDS)
        told = meeting_of(web, adds, (1, 1))
        picture = deep(told)
        told[4][0][0].clear()
        for one in (told[2], told[3], told[4]):
            one.clear()
        self.assertEqual((web, adds), (diamond(), ADDS))
        told = meeting_of(web, adds, (1, 1))
        self.assertEqual(told, picture)
        web[1].clear()
        adds.clear()
        self.assertEqual(told, picture)


class TestLeastPurse(MeetingCase):
    def check_purse(self, web, adds, length):
        """The told purse is enough, and no lesser one is."""
        told = least_purse(web, adds, pair(length))
        self.assertEqual(least_purse(web, adds, pair(length)), told)
        most = longest_of_all(web, adds)
        if most is None:
            self.assertEqual(told, ZERO)
        elif length > most:
            self.assertIsNone(told)
        else:
            self.assertGreaterEqual(Fraction(*self.check(web, adds, told)), length)
            if told != ZERO:
                for less in (Fraction(*told) * (1 - LITTLE), Fraction(*told) / 2, Fraction(0)):
                    self.assertLess(Fraction(*meeting_of(web, adds, pair(less))[1]), length)
        return told

    def test_of_one_tie(self):
        web = beside([3], [(2, 1)])
        for length, purse in ((0, ZERO), (3, ZERO), (4, (2, 1)), (5, (4, 1)), (Fraction(7, 2), (1, 1))):
            self.assertEqual(self.check_purse(web, [(2, 1)], Fraction(length)), purse)
        self.assertIsNone(self.check_purse(web, [(2, 1)], 5 + LITTLE))
        self.assertIsNone(self.check_purse(web, [(2, 1)], Fraction(LONG)))
        self.assertEqual(self.check_purse(web, [(2, 1)], 3 + LITTLE), pair(2 * LITTLE))

    def test_of_two_ties_beside_one_another(self):
        web, adds = beside([1, 2], [(1, 1), (1, 1)]), [(5, 1), (5, 1)]
        for length, purse in ((0, ZERO), (1, ZERO), (2, (1, 1)), (3, (3, 1)), (6, (9, 1))):
            self.assertEqual(self.check_purse(web, adds, Fraction(length)), purse)

    def test_without_a_way(self):
        for web in ((["a", "b"], [], "a", "b"), (["a", "b"], [tie("b", "a")], "a", "b")):
            for length in (Fraction(0), LITTLE, Fraction(LONG)):
                self.assertEqual(self.check_purse(web, [(1, 1)] * len(web[1]), length), ZERO)

    def test_for_the_numbers_of_purses(self):
        chance = random.Random(135)
        seen = 0
        for web in some_webs(135, 60) + [full_web(seed, WORTHS) for seed in range(5)]:
            adds = [some_ratio(chance) for one in web[1]]
            least, most = least_size(web), longest_of_all(web, adds)
            if least is None:
                self.check_purse(web, adds, Fraction(1))
                continue
            self.assertEqual(self.check_purse(web, adds, Fraction(0)), ZERO)
            self.assertEqual(self.check_purse(web, adds, least), ZERO)
            self.assertIsNotNone(self.check_purse(web, adds, most))
            self.assertIsNone(self.check_purse(web, adds, most + LITTLE))
            for k in range(2):
                purse = some_ratio(chance)
                number = Fraction(*meeting_of(web, adds, purse)[1])
                for length in (number, number + LITTLE, max(number - LITTLE, Fraction(0))):
                    told = self.check_purse(web, adds, length)
                    seen += 1 if told not in (None, ZERO) else 0
                self.assertLessEqual(Fraction(*least_purse(web, adds, pair(number))), Fraction(*purse))
        self.assertGreater(seen, 60)

    def test_amounts_of_sixty_figures(self):
        web = beside([LONG, 1, LONG - 1], [(1, LONG), (LONG, 1), (1, 1)])
        adds = [(LONG, 1), (LONG, 2), (1, LONG)]
        for length in (Fraction(1), Fraction(LONG, 3), Fraction(LONG, 2), Fraction(LONG, 2) + 1, Fraction(LONG)):
            self.check_purse(web, adds, length)
        self.assertEqual(least_purse(beside([1], [(LONG, 1)]), [(LONG, 1)], (LONG, 1)), (LONG * (LONG - 1), 1))

    def test_order_of_refusals(self):
        for web in WRONG_WEBS:
            for function in (meeting_of, least_purse):
                self.assertEqual(refusal(function, web, None, None), BAD_WEB)
                self.assertEqual(refusal(function, web, ADDS, ZERO), BAD_WEB)
        for adds in wrong_lists(ADDS):
            for function in (meeting_of, least_purse):
                self.assertEqual(refusal(function, diamond(), adds, None), ("NoAdds",))
                self.assertEqual(refusal(function, diamond(), adds, ZERO), ("NoAdds",))
        for purse in WRONG_PURSES + (Prickly(),):
            self.assertEqual(refusal(meeting_of, diamond(), ADDS, purse), ("NoPurse",))
            self.assertEqual(refusal(meeting_of, (["a", "b"], [], "a", "b"), [], purse), ("NoPurse",))
        for length in WRONG_NUMBERS + (Prickly(),):
            self.assertEqual(refusal(least_purse, diamond(), ADDS, length), ("NoNumber",))
            self.assertEqual(refusal(least_purse, (["a", "b"], [], "a", "b"), [], length), ("NoNumber",))


if __name__ == "__main__":
    unittest.main()
