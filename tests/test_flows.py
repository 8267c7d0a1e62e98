import random
import unittest
from fractions import Fraction

from farthestcut.flows import amount_of, look_at_flow, room_of
from helper import (
    BAD_WEB, WRONG_TAKINGS, WRONG_WEBS, Prickly, all_sides, all_takings, all_ways, deep, diamond, odd_things, pair,
    refusal, room_out, snapshot, some_ratio, some_webs, tie, wrong_lists,
)

LONG = 10 ** 60 - 1
ROOMS = [(3, 1), (2, 1), (1, 2), (5, 1), (1, 1)]
ZERO = (0, 1)


def expected(web, rooms, taking, flow):
    """What the document says of a list of as many fractions, by Fractions alone."""
    net = {place: Fraction(0) for place in web[0]}
    for number, amount in enumerate(flow):
        one, other, word = web[1][number][:3]
        amount = Fraction(*amount)
        if abs(amount) > Fraction(*rooms[number]) or (amount < 0 and word == "one") or (amount and number in taking):
            return ("NoFlow", number)
        net[one] += amount
        net[other] -= amount
    for place in web[0]:
        if place == web[2] and net[place] < 0 or place not in web[2:] and net[place]:
            return ("Unbalanced", place)
    return None


def sent(web, ways, amount):
    """The amount along each of the ways, together, as Fractions."""
    flow = [Fraction(0)] * len(web[1])
    for way in ways:
        here = web[2]
        for number in way:
            one, other = web[1][number][:2]
            flow[number] += amount if one == here else -amount
            here = other if one == here else one
    return [pair(one) for one in flow]


class TestFlow(unittest.TestCase):
    def test_flows(self):
        for flow in (
            [ZERO] * 5,
            [(2, 1), (2, 1), ZERO, ZERO, ZERO],
            [(3, 1), (2, 1), ZERO, (-1, 1), (-1, 1)],
            [(3, 2), (2, 1), (1, 2), ZERO, (1, 2)],
            [(3, 2), (2, 1), (1, 3), (1, 6), (1, 2)],
        ):
            self.assertIsNone(look_at_flow(diamond(), ROOMS, [], flow))

    def test_both_either_way_about(self):
        for ends in (("a", "b"), ("b", "a")):
            web = (["a", "b"], [tie("a", "b", "both"), tie("b", "a", "both"), tie(*ends)], "a", "b")
            for flow, amount in (([(1, 2), ZERO, ZERO], (1, 2)), ([ZERO, (-1, 2), ZERO], (1, 2)),
                                 ([(1, 1), (1, 1), ZERO], ZERO), ([(1, 1), (-1, 1), ZERO], (2, 1))):
                self.assertIsNone(look_at_flow(web, [(1, 1)] * 3, [], flow))
                self.assertEqual(amount_of(web, flow), amount)
            for flow in ([(-1, 2), ZERO, ZERO], [ZERO, (1, 2), ZERO], [(1, 3), (1, 2), ZERO]):
                self.assertEqual(refusal(look_at_flow, web, [(1, 1)] * 3, [], flow), ("Unbalanced", "a"))

    def test_flows_round_about(self):
        web = (["a", "b", "c", "d"], [tie("b", "c"), tie("c", "d", "both"), tie("b", "d", "both")], "a", "d")
        self.assertIsNone(look_at_flow(web, [(1, 1)] * 3, [], [(1, 2), (1, 2), (-1, 2)]))

    def test_just_the_room_and_a_little_more(self):
        web = (["a", "b"], [tie("a", "b"), tie("a", "b", "both"), tie("b", "a", "both")], "a", "b")
        rooms = [(2, 3), (1, 3), (1, 7)]
        little = Fraction(1, LONG)
        for number, sign in ((0, 1), (1, 1), (2, -1)):
            flow = [ZERO] * 3
            flow[number] = pair(sign * Fraction(*rooms[number]))
            self.assertIsNone(look_at_flow(web, rooms, [], flow))
            flow[number] = pair(sign * (Fraction(*rooms[number]) + little))
            self.assertEqual(refusal(look_at_flow, web, rooms, [], flow), ("NoFlow", number))
            flow[number] = pair(sign * (Fraction(*rooms[number]) - little))
            self.assertIsNone(look_at_flow(web, rooms, [], flow))

    def test_above_the_room_either_way_about(self):
        web = (["a", "b", "c"], [tie("b", "c", "both"), tie("c", "b", "both")], "a", "c")
        for amount, told in (((2, 1), None), ((-2, 1), None), ((9, 4), 0), ((-9, 4), 0), ((3, 1), 0), ((-3, 1), 0)):
            flow = [amount, amount]
            got = refusal(look_at_flow, web, [(2, 1), (3, 1)], [], flow)
            self.assertEqual(got, None if told is None else ("NoFlow", told))
        self.assertEqual(refusal(look_at_flow, web, [(3, 1), (2, 1)], [], [(3, 1), (3, 1)]), ("NoFlow", 1))

    def test_below_nought_on_a_tie_of_one(self):
        web = (["a", "b"], [tie("b", "a", "one"), tie("b", "a", "both")], "a", "b")
        self.assertEqual(refusal(look_at_flow, web, [(1, 1)] * 2, [], [(-1, LONG), ZERO]), ("NoFlow", 0))
        self.assertIsNone(look_at_flow(web, [(1, 1)] * 2, [], [ZERO, (-1, LONG)]))

    def test_not_nought_at_a_taken_tie(self):
        flow = [(1, 1), (1, 1), ZERO, ZERO, ZERO]
        self.assertIsNone(look_at_flow(diamond(), ROOMS, [2, 4], flow))
        self.assertEqual(refusal(look_at_flow, diamond(), ROOMS, [0], flow), ("NoFlow", 0))
        self.assertEqual(refusal(look_at_flow, diamond(), ROOMS, [1], flow), ("NoFlow", 1))
        back = [(1, 1), ZERO, ZERO, (-1, 1), (-1, 1)]
        self.assertIsNone(look_at_flow(diamond(), ROOMS, [1, 2], back))
        self.assertEqual(refusal(look_at_flow, diamond(), ROOMS, [2, 4], back), ("NoFlow", 4))

    def test_no_fraction(self):
        for number in range(5):
            for thing in (None, 0, 1, True, "0", [0, 1], (0,), (0, 2), (2, 2), (1, -1), (0, 1, 1), (False, 1),
                          (0, True), (), {}, Prickly()):
                flow = [ZERO] * 5
                flow[number] = thing
                self.assertEqual(refusal(look_at_flow, diamond(), ROOMS, [], flow), ("NoFlow", number))
                self.assertEqual(refusal(look_at_flow, diamond(), ROOMS, [0, 1, 2, 4], flow), ("NoFlow", number))

    def test_the_first_that_is_not_so(self):
        wrong = [(9, 1), None, (-1, 1), (-9, 1), (1, 0)]
        for number in range(5):
            flow = [ZERO] * number + wrong[number:]
            self.assertEqual(refusal(look_at_flow, diamond(), ROOMS, [], flow), ("NoFlow", number))

    def test_no_list_of_as_many(self):
        right = [ZERO] * 5
        for thing in odd_things() + [right[:4], right + [ZERO], tuple(right), [None] * 4, [None] * 6,
                                     dict(enumerate(right)), Prickly()]:
            self.assertEqual(refusal(look_at_flow, diamond(), ROOMS, [], thing), ("NoFlow", None))
        self.assertIsNone(look_at_flow((["a", "b"], [], "a", "b"), [], [], []))
        self.assertEqual(refusal(look_at_flow, (["a", "b"], [], "a", "b"), [], [], [ZERO]), ("NoFlow", None))

    def test_unbalanced(self):
        ties = [tie("a", "b", "both"), tie("b", "c", "both"), tie("c", "d", "both")]
        for places in (list("abcd"), list("dcba"), list("cbad")):
            web = (places, ties, "a", "d")
            for flow, wrong in (([(1, 1), ZERO, ZERO], "b"), ([ZERO, (1, 1), ZERO], "bc"), ([ZERO, ZERO, (1, 1)], "c"),
                                ([(-1, 1), ZERO, ZERO], "ab"), ([(1, 1), (1, 2), (1, 2)], "b"),
                                ([(1, 1), (1, 1), (1, 2)], "c"), ([(-1, 1), (-1, 1), (-1, 1)], "a")):
                first = [place for place in places if place in wrong][0]
                self.assertEqual(refusal(look_at_flow, web, [(1, 1)] * 3, [], flow), ("Unbalanced", first))

    def test_less_goes_from_first(self):
        ties = [tie("b", "a"), tie("c", "b"), tie("a", "c")]
        for places in (list("abc"), list("cba"), list("bca")):
            web = (places, ties, "a", "c")
            self.assertEqual(refusal(look_at_flow, web, [(1, 1)] * 3, [], [(1, 1), (1, 1), ZERO]), ("Unbalanced", "a"))
            self.assertEqual(refusal(look_at_flow, web, [(1, 1)] * 3, [], [(1, 1), (1, 1), (1, 2)]),
                             ("Unbalanced", "a"))
            self.assertIsNone(look_at_flow(web, [(1, 1)] * 3, [], [(1, 2), (1, 2), (1, 2)]))
            self.assertIsNone(look_at_flow(web, [(1, 1)] * 3, [], [(1, 3), (1, 3), (1, 2)]))

    def test_unbalanced_behind_no_flow(self):
        self.assertEqual(refusal(look_at_flow, diamond(), ROOMS, [], [(1, 1), ZERO, ZERO, ZERO, (9, 1)]), ("NoFlow", 4))
        self.assertEqual(refusal(look_at_flow, diamond(), ROOMS, [], [(1, 1), ZERO, ZERO, ZERO, None]), ("NoFlow", 4))
        self.assertEqual(refusal(look_at_flow, diamond(), ROOMS, [], [(1, 1), ZERO, ZERO, ZERO, ZERO]),
                         ("Unbalanced", "b"))

    def test_last_is_left_out(self):
        web = (["b", "a"], [tie("a", "b")], "a", "b")
        self.assertIsNone(look_at_flow(web, [(1, 1)], [], [(1, 1)]))

    def test_on_small_webs(self):
        chance = random.Random(51)
        seen = {}
        for web in some_webs(51, 200):
            rooms = [some_ratio(chance) for one in web[1]]
            taking = chance.choice(all_takings(web, (2, 1)))
            ways = all_ways(web)
            for k in range(6):
                flow = sent(web, chance.sample(ways, min(len(ways), chance.randint(0, 3))), Fraction(k, 2))
                if flow and k % 2:
                    flow[chance.randrange(len(flow))] = pair(Fraction(chance.randint(-2, 2)))
                right = expected(web, rooms, taking, flow)
                self.assertEqual(refusal(look_at_flow, web, rooms, taking, flow), right)
                seen[None if right is None else right[0]] = seen.get(None if right is None else right[0], 0) + 1
        self.assertTrue(all(seen[word] > 60 for word in (None, "NoFlow", "Unbalanced")), seen)


class TestAmount(unittest.TestCase):
    def test_of_any_fractions(self):
        self.assertEqual(amount_of(diamond(), [(3, 1), ZERO, (1, 2), ZERO, ZERO]), (7, 2))
        self.assertEqual(amount_of(diamond(), [(-3, 1), (9, 1), (1, 2), (9, 1), (-9, 1)]), (-5, 2))
        self.assertEqual(amount_of((["a", "b"], [], "a", "b"), []), ZERO)
        back = (["a", "b", "c"], [tie("b", "a"), tie("a", "c", "both"), tie("c", "b")], "a", "c")
        self.assertEqual(amount_of(back, [(1, 3), (1, 2), (7, 1)]), (1, 6))
        self.assertEqual(amount_of(back, [(1, 2), (1, 2), (7, 1)]), ZERO)

    def test_on_small_webs(self):
        chance = random.Random(52)
        for web in some_webs(52, 80):
            flow = [pair(Fraction(chance.randint(-9, 9), chance.randint(1, 4))) for one in web[1]]
            net = sum((Fraction(*amount) * ((one[0] == web[2]) - (one[1] == web[2]))
                       for amount, one in zip(flow, web[1])), Fraction(0))
            self.assertEqual(amount_of(web, flow), pair(net))

    def test_of_long_numbers(self):
        web = (["a", "b"], [tie("a", "b"), tie("b", "a")], "a", "b")
        right = Fraction(LONG, LONG - 1) - Fraction(1, LONG)
        self.assertEqual(amount_of(web, [(LONG, LONG - 1), (1, LONG)]), pair(right))


class TestRoom(unittest.TestCase):
    def test_sides(self):
        web = diamond()
        self.assertEqual(room_of(web, ROOMS, [], ["a"]), (7, 2))
        self.assertEqual(room_of(web, ROOMS, [], ["a", "b"]), (7, 2))
        self.assertEqual(room_of(web, ROOMS, [], ["a", "c"]), (9, 1))
        self.assertEqual(room_of(web, ROOMS, [], ["a", "b", "c"]), (7, 1))

    def test_taken_ties(self):
        web = diamond()
        self.assertEqual(room_of(web, ROOMS, [0], ["a"]), (1, 2))
        self.assertEqual(room_of(web, ROOMS, [0, 2], ["a"]), ZERO)
        self.assertEqual(room_of(web, ROOMS, [1, 4], ["a", "b"]), (1, 2))
        self.assertEqual(room_of(web, ROOMS, [4], ["a", "b", "c"]), (7, 1))

    def test_ties_of_one_into_and_out_of_the_side(self):
        web = (["a", "b", "c"], [tie("a", "b"), tie("b", "a"), tie("b", "c"), tie("c", "b"), tie("c", "a")], "a", "c")
        rooms = [(1, 1), (10, 1), (100, 1), (1000, 1), (10000, 1)]
        self.assertEqual(room_of(web, rooms, [], ["a"]), (1, 1))
        self.assertEqual(room_of(web, rooms, [], ["a", "b"]), (100, 1))

    def test_ties_of_both(self):
        web = (["a", "b", "c"], [tie("a", "b", "both"), tie("b", "a", "both"), tie("c", "b", "both"),
                                 tie("c", "a", "both")], "a", "c")
        rooms = [(1, 1), (10, 1), (100, 1), (1000, 1)]
        self.assertEqual(room_of(web, rooms, [], ["a"]), (1011, 1))
        self.assertEqual(room_of(web, rooms, [], ["a", "b"]), (1100, 1))

    def test_on_small_webs(self):
        chance = random.Random(53)
        for web in some_webs(53, 80):
            rooms = [some_ratio(chance) for one in web[1]]
            taking = chance.choice(all_takings(web, (2, 1)))
            for side in all_sides(web):
                self.assertEqual(room_of(web, rooms, taking, side), pair(room_out(web, rooms, taking, side)))

    def test_no_side(self):
        for side in odd_things() + [
            [], ["b"], ["b", "a"], ["a", "c", "b"], ["a", "a"], ["a", "b", "b"], ["a", "d"], ["a", "b", "c", "d"],
            ["b", "c"], ["d"], ["a", "e"], ["a", ""], ["a", "A"], ["a", None], ["a", True], ["a", ["b"]], [("a",)],
            ("a",), ("a", "b"), {"a": 1}, {"a"}, "ab", ["ab"], ["a", Prickly()],
        ]:
            if snapshot(side) != snapshot(["a"]):
                self.assertEqual(refusal(room_of, diamond(), ROOMS, [], side), ("NoSide",))

    def test_the_webs_order(self):
        web = (["c", "b", "d", "a"],) + diamond()[1:]
        self.assertEqual(refusal(room_of, web, ROOMS, [], ["a", "b"]), ("NoSide",))
        self.assertEqual(room_of(web, ROOMS, [], ["b", "a"]), (7, 2))
        self.assertEqual(room_of(web, ROOMS, [], ["c", "a"]), (9, 1))


class TestOrder(unittest.TestCase):
    def test_no_rooms(self):
        for rooms in wrong_lists(ROOMS):
            self.assertEqual(refusal(look_at_flow, diamond(), rooms, [], [ZERO] * 5), ("NoRooms",))
            self.assertEqual(refusal(look_at_flow, diamond(), rooms, None, None), ("NoRooms",))
            self.assertEqual(refusal(room_of, diamond(), rooms, [], ["a"]), ("NoRooms",))
            self.assertEqual(refusal(room_of, diamond(), rooms, None, None), ("NoRooms",))
        self.assertIsNone(look_at_flow(diamond(), [ZERO] * 5, [], [ZERO] * 5))

    def test_order_of_refusals(self):
        for web in WRONG_WEBS:
            self.assertEqual(refusal(look_at_flow, web, None, None, None), BAD_WEB)
            self.assertEqual(refusal(look_at_flow, web, ROOMS, [], [ZERO] * 5), BAD_WEB)
            self.assertEqual(refusal(amount_of, web, [ZERO] * 5), BAD_WEB)
            self.assertEqual(refusal(room_of, web, None, None, None), BAD_WEB)
            self.assertEqual(refusal(room_of, web, ROOMS, [], ["a"]), BAD_WEB)
        for taking in WRONG_TAKINGS:
            self.assertEqual(refusal(look_at_flow, diamond(), ROOMS, taking, None), ("NoTaking",))
            self.assertEqual(refusal(look_at_flow, diamond(), ROOMS, taking, [ZERO] * 5), ("NoTaking",))
            self.assertEqual(refusal(room_of, diamond(), ROOMS, taking, None), ("NoTaking",))
            self.assertEqual(refusal(room_of, diamond(), ROOMS, taking, ["a"]), ("NoTaking",))

    def test_what_is_handed_in_stays(self):
        flow = [(1, 1), (1, 1), ZERO, ZERO, ZERO]
        things = (diamond(), list(ROOMS), [4], flow, ["a", "b"])
        picture = deep(things)
        for k in range(2):
            self.assertIsNone(look_at_flow(*things[:4]))
            self.assertEqual(amount_of(things[0], flow), (1, 1))
            self.assertEqual(room_of(*things[:3], things[4]), (5, 2))
        self.assertEqual(things, picture)


if __name__ == "__main__":
    unittest.main()
