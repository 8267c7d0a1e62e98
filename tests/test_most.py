import random
import unittest
from fractions import Fraction

from farthestcut.flows import amount_of, look_at_flow, room_of
from farthestcut.most import most_flow
from helper import (
    BAD_WEB, WRONG_TAKINGS, WRONG_WEBS, all_sides, all_takings, deep, diamond, full_web, is_askers_own, pair, refusal,
    room_out, some_ratio, some_webs, tie, wrong_lists,
)
from test_flows import ROOMS

LONG = 10 ** 60 - 1
ZERO = (0, 1)


def zigzag(word="one"):
    """Great rooms all about, and one of little room between: by ways of whatever kind each round brings 1 alone."""
    ties = [tie("a", "b"), tie("a", "c"), tie("b", "c", word), tie("b", "d"), tie("c", "d")]
    return (["a", "b", "c", "d"], ties, "a", "d")


class TestTold(unittest.TestCase):
    def check(self, web, rooms, taking):
        """What is told, held against all sides."""
        ahead = deep((web, rooms, taking))
        told = most_flow(web, rooms, taking)
        self.assertIs(told.__class__, tuple)
        flow, side = told
        self.assertIsNone(look_at_flow(web, rooms, taking, flow))
        self.assertIn(side, all_sides(web))
        amount = amount_of(web, flow)
        self.assertEqual(amount, room_of(web, rooms, taking, side))
        self.assertEqual(Fraction(*amount), min(room_out(web, rooms, taking, one) for one in all_sides(web)))
        self.assertTrue(is_askers_own(told, (web, rooms, taking)))
        self.assertEqual((web, rooms, taking), ahead)
        self.assertEqual(most_flow(web, rooms, taking), told)
        return amount

    def test_of_the_diamond(self):
        self.assertEqual(self.check(diamond(), ROOMS, []), (7, 2))
        self.assertEqual(self.check(diamond(), ROOMS, [0]), (1, 2))
        self.assertEqual(self.check(diamond(), ROOMS, [1]), (3, 2))
        self.assertEqual(self.check(diamond(), ROOMS, [1, 4]), (1, 2))
        self.assertEqual(self.check(diamond(), ROOMS, [0, 2]), ZERO)
        self.assertEqual(most_flow(diamond(), ROOMS, [0, 2]), ([ZERO] * 5, ["a"]))

    def test_rooms_of_nought(self):
        self.assertEqual(self.check(diamond(), [ZERO] * 5, []), ZERO)
        self.assertEqual(self.check(diamond(), [(1, 1), ZERO, ZERO, (1, 1), (1, 1)], []), (1, 1))
        self.assertEqual(self.check(diamond(), [(1, 1), ZERO, ZERO, ZERO, (1, 1)], []), ZERO)

    def test_without_a_way(self):
        for web in ((["a", "b"], [], "a", "b"), (["a", "b"], [tie("b", "a")], "a", "b"),
                    (["a", "b", "c"], [tie("a", "b", "both"), tie("c", "b")], "a", "c")):
            self.assertEqual(self.check(web, [(5, 2)] * len(web[1]), []), ZERO)

    def test_long_rooms_beside_short_ones(self):
        for word in ("one", "both"):
            for great in (LONG, 10 ** 59):
                rooms = [(great, 1), (great, 1), (1, 1), (great, 1), (great, 1)]
                self.assertEqual(self.check(zigzag(word), rooms, []), (2 * great, 1))
                self.assertEqual(self.check(zigzag(word), rooms, [1]), (great, 1))
                self.assertEqual(self.check(zigzag(word), rooms, [1, 3]), (1, 1))
                self.check(zigzag(word), [(great, 1), (1, 1), (great, 1), (1, 1), (great, 1)], [])
                self.check(zigzag(word), [(1, great), (great, 1), (1, 1), pair(Fraction(great, 7)), (1, great - 1)], [])

    def test_fractions(self):
        rooms = [(1, 2), (1, 3), (1, 5), (1, 7), (1, 11)]
        self.assertEqual(self.check(zigzag(), rooms, []), pair(Fraction(1, 7) + Fraction(1, 11)))
        self.assertEqual(self.check(zigzag(), rooms[::-1], []), pair(Fraction(1, 11) + Fraction(1, 7)))
        self.check(zigzag("both"), [(1, 11), (1, 2), (1, 5), (1, 3), (1, 7)], [])

    def test_ties_of_both(self):
        web = (["a", "b", "c"], [tie("b", "a", "both"), tie("c", "b", "both"), tie("c", "a", "both")], "a", "c")
        self.assertEqual(self.check(web, [(2, 1), (3, 1), (1, 2)], []), (5, 2))
        self.assertEqual(most_flow(web, [(2, 1), (2, 1), (1, 2)], [])[0], [(-2, 1), (-2, 1), (-1, 2)])
        web = (["a", "b"], [tie("a", "b", "both"), tie("b", "a", "both"), tie("b", "a")], "a", "b")
        self.assertEqual(self.check(web, [(1, 3), (1, 2), (9, 1)], []), (5, 6))

    def test_what_went_ahead_must_go_back(self):
        """A way of the fewest ties, found first, takes the room that two others need."""
        ends = ("ab", "bc", "cg", "ad", "de", "ec", "bf", "fg")
        web = (list("abcdefg"), [tie(one, other) for one, other in ends], "a", "g")
        self.assertEqual(self.check(web, [(1, 1)] * 8, []), (2, 1))
        self.assertEqual(most_flow(web, [(1, 1)] * 8, [])[0][1], ZERO)

    def test_on_small_webs(self):
        chance = random.Random(61)
        above = 0
        for web in some_webs(61, 250):
            rooms = [some_ratio(chance) for one in web[1]]
            above += self.check(web, rooms, []) != ZERO
            self.check(web, rooms, chance.choice(all_takings(web, (3, 1))))
        self.assertGreater(above, 60)

    def test_on_webs_of_full_size(self):
        chance = random.Random(62)
        for web in some_webs(62, 40, 7, 14) + [full_web(seed) for seed in range(20)]:
            self.check(web, [some_ratio(chance) for one in web[1]], [])
            great = [pair(Fraction(chance.randint(0, LONG), chance.randint(1, LONG))) for one in web[1]]
            self.check(web, great, [])

    def test_what_is_told_changes_nothing(self):
        web, rooms, taking = diamond(), list(ROOMS), [4]
        told = most_flow(web, rooms, taking)
        picture = deep(told)
        told[0].clear()
        told[1].append("z")
        self.assertEqual((web, rooms, taking), (diamond(), ROOMS, [4]))
        told = most_flow(web, rooms, taking)
        self.assertEqual(told, picture)
        web[0].clear()
        rooms.clear()
        taking.clear()
        self.assertEqual(told, picture)


class TestRefused(unittest.TestCase):
    def test_order_of_refusals(self):
        for web in WRONG_WEBS:
            self.assertEqual(refusal(most_flow, web, None, None), BAD_WEB)
            self.assertEqual(refusal(most_flow, web, ROOMS, []), BAD_WEB)
        for rooms in wrong_lists(ROOMS):
            self.assertEqual(refusal(most_flow, diamond(), rooms, None), ("NoRooms",))
            self.assertEqual(refusal(most_flow, diamond(), rooms, []), ("NoRooms",))
        for taking in WRONG_TAKINGS:
            self.assertEqual(refusal(most_flow, diamond(), ROOMS, taking), ("NoTaking",))


if __name__ == "__main__":
    unittest.main()
