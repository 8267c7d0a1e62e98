import random
import unittest
from fractions import Fraction

from farthestcut.flowcases import claim_of_flow_cases
from farthestcut.flows import amount_of, look_at_flow, room_of
from farthestcut.stops import best_stop
from farthestcut.takings import is_within, look_at_taking
from helper import (
    BAD_WEB, WRONG_PURSES, WRONG_WEBS, Prickly, all_takings, deep, diamond, full_web, is_askers_own, most_at_a_time,
    pair, purses_around, refusal, some_ratio, some_webs, tie, wrong_lists,
)
from test_flowcases import beside, most_through
from test_flows import ROOMS

LONG = 10 ** 60 - 1
ZERO = (0, 1)


class TestTold(unittest.TestCase):
    def check(self, web, rooms, purse):
        """What is told, held against all takings within the purse and all sides."""
        ahead = deep((web, rooms, purse))
        told = best_stop(web, rooms, purse)
        self.assertIs(told.__class__, tuple)
        taking, flow, side, cases = told
        self.assertIsNone(look_at_taking(web, taking))
        self.assertIs(is_within(web, taking, purse), True)
        self.assertIsNone(look_at_flow(web, rooms, taking, flow))
        amount = amount_of(web, flow)
        self.assertEqual(amount, room_of(web, rooms, taking, side))
        self.assertEqual(amount, claim_of_flow_cases(web, rooms, purse, cases))
        least = min(most_through(web, rooms, one) for one in all_takings(web, purse))
        self.assertEqual(amount, pair(least))
        self.assertTrue(is_askers_own(told, (web, rooms, purse)))
        self.assertEqual((web, rooms, purse), ahead)
        self.assertEqual(best_stop(web, rooms, purse), told)
        return told

    def test_of_the_diamond(self):
        self.assertEqual(best_stop(diamond(), ROOMS, (0, 1))[0], [])
        self.assertEqual(self.check(diamond(), ROOMS, (1, 2))[0], [1])
        self.assertEqual(self.check(diamond(), ROOMS, (1, 1))[0], [0])
        self.assertEqual(self.check(diamond(), ROOMS, (7, 6))[0], [0])

    def test_a_taking_that_stops_all(self):
        web = beside(2)
        told = self.check(web, [(5, 1), (1, 3)], (2, 1))
        self.assertEqual(told[:3], ([0, 1], [ZERO, ZERO], ["a"]))
        bridge = (["c", "b", "a"], [tie("a", "b", "both", (1, 1), None), tie("c", "b", "both")], "a", "c")
        self.assertEqual(self.check(bridge, [(5, 1), (1, 3)], (1, 1))[:3], ([1], [ZERO, ZERO], ["b", "a"]))

    def test_a_purse_of_nought(self):
        chance = random.Random(81)
        for web in some_webs(81, 40):
            rooms = [some_ratio(chance) for one in web[1]]
            told = self.check(web, rooms, (0, 1))
            self.assertEqual((told[0], told[3]), ([], ("flow", told[1], [])))

    def test_without_a_way(self):
        for web in ((["a", "b"], [], "a", "b"), (["a", "b"], [tie("b", "a")] * 2, "a", "b")):
            self.assertEqual(self.check(web, [(1, 1)] * len(web[1]), (9, 1))[3], ("flow", [ZERO] * len(web[1]), []))

    def test_watched_ties(self):
        web = beside(4, (None, (1, 1)))
        told = self.check(web, [(1, 1), (9, 1), (2, 1), (1, 1)], (9, 1))
        self.assertEqual((told[0], amount_of(web, told[1])), ([1, 3], (3, 1)))

    def test_worths_just_at_the_purse_and_a_little_less(self):
        web, rooms = beside(3, ((1, 2), (1, 3), (5, 1))), [(1, 1), (2, 1), (4, 1)]
        little = Fraction(1, LONG)
        for purse, taking in ((Fraction(5, 6), [0, 1]), (Fraction(5, 6) - little, [1]), (Fraction(1, 3), [1]),
                              (Fraction(1, 3) - little, [])):
            self.assertEqual(self.check(web, rooms, pair(purse))[0], taking)

    def test_rooms_of_nought_and_of_sixty_figures(self):
        web = beside(5)
        for rooms in ([ZERO] * 5, [(LONG, 1), (1, 1), ZERO, (LONG - 1, 1), (1, LONG)],
                      [(1, LONG), (1, LONG - 1), (1, LONG - 2), (LONG, 2), (2, LONG)]):
            for purse in ((0, 1), (1, 1), (2, 1)):
                self.check(web, rooms, purse)
        zigzag = (list("abcd"), [tie("a", "b"), tie("a", "c"), tie("b", "c", "both"), tie("b", "d"), tie("c", "d")],
                  "a", "d")
        for purse in ((1, 1), (2, 1)):
            self.check(zigzag, [(LONG, 1), (LONG, 1), (1, 1), (LONG, 1), (LONG, 1)], purse)

    def test_two_that_are_best_together_alone(self):
        """The greatest room is not worth taking: two lesser ones behind it stop all."""
        ties = [tie("a", "b", "one", (1, 1), (2, 1)), tie("b", "c", "both"), tie("c", "b", "both"),
                tie("a", "c", "one", (1, 1), (2, 1))]
        told = self.check((["a", "b", "c"], ties, "a", "c"), [(9, 1), (3, 1), (3, 1), (4, 1)], (2, 1))
        self.assertEqual((told[0], amount_of((["a", "b", "c"], ties, "a", "c"), told[1])), ([0], (4, 1)))
        told = self.check((["a", "b", "c"], ties, "a", "c"), [(9, 1), (3, 1), (3, 1), (7, 1)], (2, 1))
        self.assertEqual(told[0], [3])

    def test_a_taking_is_told_rising(self):
        """What goes along tie 2 goes along tie 0 alone where tie 2 is taken."""
        ties = [tie("a", "d"), tie("b", "c", "one", (1, 1), None), tie("a", "b"), tie("d", "b", "one", (1, 1), None)]
        self.assertEqual(self.check((list("abcd"), ties, "a", "c"), [(1, 1)] * 4, (2, 1))[0], [0, 2])

    def test_on_small_webs(self):
        chance = random.Random(82)
        seen = {0: 0, 1: 0, 2: 0}
        for web in some_webs(82, 120):
            rooms = [some_ratio(chance) for one in web[1]]
            for purse in purses_around(chance, web):
                if most_at_a_time(web, purse) <= 2:
                    seen[len(self.check(web, rooms, purse)[0])] += 1
        self.assertGreater(min(seen.values()), 20, seen)

    def test_on_webs_of_full_size(self):
        chance = random.Random(83)
        for seed in range(4):
            web = full_web(seed)
            self.check(web, [some_ratio(chance) for one in web[1]], (2, 1))
            great = [pair(Fraction(chance.randint(1, LONG), chance.randint(1, LONG))) for one in web[1]]
            self.check(web, great, (2, 1))

    def test_what_is_told_changes_nothing(self):
        web, rooms = beside(3), [(1, 1), (2, 1), (3, 1)]
        told = best_stop(web, rooms, (1, 1))
        picture = deep(told)
        for one in (told[0], told[1], told[2], told[3][1], told[3][2]):
            one.clear()
        self.assertEqual((web, rooms), (beside(3), [(1, 1), (2, 1), (3, 1)]))
        told = best_stop(web, rooms, (1, 1))
        self.assertEqual(told, picture)
        web[1].clear()
        rooms.clear()
        self.assertEqual(told, picture)


class TestRefused(unittest.TestCase):
    def test_more_than_two_at_once(self):
        for ends in (("a", "b"), ("b", "a")):
            web, rooms = (["a", "b"], [tie(*ends)] * 3, "a", "b"), [(1, 1)] * 3
            for purse in ((3, 1), (4, 1), (LONG, 1)):
                self.assertEqual(refusal(best_stop, web, rooms, purse), ("TooMany",))
            for purse in ((2, 1), pair(3 - Fraction(1, LONG))):
                self.assertIsNone(refusal(best_stop, web, rooms, purse))
        self.assertIsNone(refusal(best_stop, beside(2), [(1, 1)] * 2, (LONG, 1)))

    def test_order_of_refusals(self):
        many = [tie("a", "b")] * 5
        for web in WRONG_WEBS:
            self.assertEqual(refusal(best_stop, web, None, None), BAD_WEB)
            self.assertEqual(refusal(best_stop, web, ROOMS, (99, 1)), BAD_WEB)
        for rooms in wrong_lists(ROOMS):
            for purse in (None, (0, 1), (99, 1)):
                self.assertEqual(refusal(best_stop, diamond(), rooms, purse), ("NoRooms",))
        for purse in WRONG_PURSES + (Prickly(),):
            self.assertEqual(refusal(best_stop, diamond(), ROOMS, purse), ("NoPurse",))
            self.assertEqual(refusal(best_stop, (["a", "b"], many, "a", "b"), ROOMS, purse), ("NoPurse",))
        self.assertEqual(refusal(best_stop, (["a", "b"], many, "a", "b"), ROOMS[:4], (99, 1)), ("NoRooms",))


if __name__ == "__main__":
    unittest.main()
