import random
import unittest
from fractions import Fraction

from farthestcut.flowcases import claim_of_flow_cases
from farthestcut.flows import amount_of
from farthestcut.most import most_flow
from helper import (
    BAD_WEB, WRONG_PURSES, WRONG_WEBS, Prickly, all_paths, all_sides, all_takings, all_ways, at_path, deep, diamond,
    most_at_a_time, odd_things, pair, put_at, refusal, room_out, some_ratio, some_webs, spoilt_case, tie, ways_in,
    worth, wrong_lists,
)
from test_flows import ROOMS, sent

LONG = 10 ** 60 - 1
ZERO = (0, 1)


def the_most(web, rooms, taken):
    return most_flow(web, rooms, sorted(taken))[0]


def half(web, rooms, taken):
    return [pair(Fraction(*amount) / 2) for amount in the_most(web, rooms, taken)]


def nothing(web, rooms, taken):
    return [ZERO] * len(web[1])


def along_some_way(chance):
    def pick(web, rooms, taken):
        ways = all_ways(web, taken)
        if not ways:
            return nothing(web, rooms, taken)
        way = chance.choice(ways)
        most = min(Fraction(*rooms[number]) for number in way)
        return sent(web, [way], most * chance.choice((1, 1, Fraction(2, 3))))
    return pick


def write_cases(web, rooms, purse, pick, taken=(), kept=()):
    """Cases of flows by the document's words, the flow of each picked for those taken ahead."""
    flow = pick(web, rooms, taken)
    inner = []
    for number, amount in enumerate(flow):
        if amount == ZERO or web[1][number][4] is None or number in kept:
            continue
        if worth(web, taken + (number,)) <= Fraction(*purse):
            ahead = tuple(one for one, case in inner)
            inner.append((number, write_cases(web, rooms, purse, pick, taken + (number,), kept + ahead)))
    return ("flow", flow, inner)


def claimed(web, cases):
    return min(Fraction(*amount_of(web, flow)) for flow in ways_in(cases))


def most_through(web, rooms, taking):
    return min(room_out(web, rooms, taking, side) for side in all_sides(web))


def spoilt_flows(rooms, taken, case):
    """The case with things that are no flows for those taken ahead, in many manners."""
    word, flow, inner = case
    wrong = [tuple(flow), flow[:-1], flow + [ZERO], None, {}, dict(enumerate(flow)), "", 0, Prickly(), []]
    for number, amount in enumerate(flow):
        over = Fraction(*rooms[number]) + Fraction(1, LONG)
        kinds = [None, amount[0], True, list(amount), amount + (1,), (amount[0] * 2, amount[1] * 2), Prickly()]
        kinds += [pair(over), pair(-over)] + ([(1, LONG)] if number in taken else [])
        wrong += [flow[:number] + [one] + flow[number + 1:] for one in kinds]
    return [(word, one, inner) for one in wrong]


def beside(count, worths=((1, 1),)):
    """So many ties between a and b, each second one the other way about and of both."""
    ends = (("a", "b", "one"), ("b", "a", "both"))
    return (["a", "b"], [tie(*ends[k % 2], (1, 1), worths[k % len(worths)]) for k in range(count)], "a", "b")


class TestRight(unittest.TestCase):
    def test_nothing_can_be_taken(self):
        for flow, amount in (([ZERO] * 5, ZERO), ([(1, 1), (1, 1), ZERO, ZERO, ZERO], (1, 1)),
                             ([(3, 1), (2, 1), (1, 2), (-3, 2), (-1, 1)], (7, 2))):
            self.assertEqual(claim_of_flow_cases(diamond(), ROOMS, (0, 1), ("flow", flow, [])), amount)

    def test_a_flow_of_nought_needs_no_cases(self):
        self.assertEqual(claim_of_flow_cases(diamond(), ROOMS, (99, 1), ("flow", [ZERO] * 5, [])), ZERO)
        empty = (["a", "b"], [], "a", "b")
        self.assertEqual(claim_of_flow_cases(empty, [], (99, 1), ("flow", [], [])), ZERO)

    def test_flows_that_are_not_the_most(self):
        web, rooms = beside(3), [(2, 1), (3, 1), (1, 2)]
        right = ("flow", [(1, 1), (-2, 1), ZERO], [
            (0, ("flow", [ZERO, (-5, 2), ZERO], [])),
            (1, ("flow", [(1, 3), ZERO, (1, 4)], [])),
        ])
        self.assertEqual(claim_of_flow_cases(web, rooms, (1, 1), right), (7, 12))
        less = ("flow", [(1, 3), ZERO, ZERO], [(0, ("flow", [ZERO, ZERO, (1, 2)], []))])
        self.assertEqual(claim_of_flow_cases(web, rooms, (1, 1), less), (1, 3))

    def test_from_other_to_one(self):
        web, rooms = beside(4), [(1, 1)] * 4
        flow = [ZERO, (-1, 1), ZERO, (-1, 1)]
        inner = ("flow", [(1, 1), ZERO, ZERO, ZERO], [])
        other = ("flow", [ZERO, ZERO, (1, 2), ZERO], [])
        self.assertEqual(claim_of_flow_cases(web, rooms, (1, 1), ("flow", flow, [(1, inner), (3, other)])), (1, 2))
        for wrong in ([], [(1, inner)], [(3, other)], [(3, other), (1, inner)], [(0, inner), (1, inner), (3, other)]):
            self.assertEqual(refusal(claim_of_flow_cases, web, rooms, (1, 1), ("flow", flow, wrong)), ("NoCases", []))

    def test_the_least_of_the_amounts(self):
        web = beside(2)
        for rooms in ([(1, 3), (1, 2)], [(1, 2), (1, 3)]):
            cases = write_cases(web, rooms, (1, 1), the_most)
            self.assertEqual(claim_of_flow_cases(web, rooms, (1, 1), cases), (1, 3))
        outermost = ("flow", [(1, 9), ZERO], [(0, ("flow", [ZERO, (-1, 2)], []))])
        self.assertEqual(claim_of_flow_cases(web, [(1, 2), (1, 2)], (1, 1), outermost), (1, 9))

    def test_worths_just_at_the_purse_and_a_little_more(self):
        web, rooms = beside(2, ((1, 3),)), [(1, 1), (1, 1)]
        bare = ("flow", [(1, 1), ZERO], [])
        full = ("flow", [(1, 1), ZERO], [(0, ("flow", [ZERO, (-1, 2)], []))])
        little = Fraction(1, LONG)
        for purse, right, wrong in ((Fraction(1, 3) - little, bare, full), (Fraction(1, 3), full, bare),
                                    (Fraction(1, 3) + little, full, bare)):
            self.assertIsNone(refusal(claim_of_flow_cases, web, rooms, pair(purse), right))
            self.assertEqual(refusal(claim_of_flow_cases, web, rooms, pair(purse), wrong), ("NoCases", []))

    def test_worths_together_at_the_purse(self):
        web, rooms = beside(3, ((1, 2), (1, 3), (1, 1))), [(1, 1)] * 3
        two = ("flow", [(1, 1), ZERO, ZERO], [(0, ("flow", [ZERO, (-1, 1), ZERO], [(1, ("flow", [ZERO] * 3, []))]))])
        one = put_at(two, [0], ("flow", [ZERO, (-1, 1), ZERO], []))
        self.assertEqual(claim_of_flow_cases(web, rooms, (5, 6), two), ZERO)
        self.assertEqual(refusal(claim_of_flow_cases, web, rooms, (5, 6), one), ("NoCases", [0]))
        self.assertEqual(claim_of_flow_cases(web, rooms, (4, 5), one), (1, 1))
        self.assertEqual(refusal(claim_of_flow_cases, web, rooms, (4, 5), two), ("NoCases", [0]))

    def test_watched_ties(self):
        web, rooms = beside(2, (None, (1, 1))), [(1, 1), (1, 1)]
        self.assertEqual(claim_of_flow_cases(web, rooms, (9, 1), ("flow", [(1, 1), ZERO], [])), (1, 1))
        wrong = ("flow", [(1, 1), ZERO], [(0, ("flow", [ZERO, ZERO], []))])
        self.assertEqual(refusal(claim_of_flow_cases, web, rooms, (9, 1), wrong), ("NoCases", []))

    def test_kept_by_the_tuples_ahead(self):
        web, rooms = beside(3), [(1, 1)] * 3
        full = [(1, 1), (-1, 1), (1, 1)]
        last = ("flow", [ZERO, ZERO, (1, 1)], [])
        right = ("flow", full, [
            (0, ("flow", [ZERO, (-1, 1), (1, 1)], [(1, last), (2, ("flow", [ZERO, (-1, 1), ZERO], []))])),
            (1, ("flow", [(1, 1), ZERO, (1, 1)], [(2, ("flow", [(1, 1), ZERO, ZERO], []))])),
            (2, ("flow", [(1, 1), (-1, 1), ZERO], [])),
        ])
        self.assertEqual(claim_of_flow_cases(web, rooms, (2, 1), right), (1, 1))
        both = [(0, last), (2, ("flow", [(1, 1), ZERO, ZERO], []))]
        kept = put_at(right, [1], ("flow", [(1, 1), ZERO, (1, 1)], both))
        self.assertEqual(refusal(claim_of_flow_cases, web, rooms, (2, 1), kept), ("NoCases", [1]))
        kept = put_at(right, [2], ("flow", [(1, 1), (-1, 1), ZERO], [(0, ("flow", [ZERO] * 3, []))]))
        self.assertEqual(refusal(claim_of_flow_cases, web, rooms, (2, 1), kept), ("NoCases", [2]))
        free = put_at(right, [0], ("flow", [ZERO, (-1, 1), (1, 1)], [(1, last)]))
        self.assertEqual(refusal(claim_of_flow_cases, web, rooms, (2, 1), free), ("NoCases", [0]))

    def test_taken_in_falling_order(self):
        web, rooms = beside(3), [(1, 1)] * 3
        falling = ("flow", [ZERO, ZERO, (1, 1)],
                   [(2, ("flow", [(1, 1), ZERO, ZERO], [(0, ("flow", [ZERO, (-1, 2), ZERO], []))]))])
        self.assertEqual(claim_of_flow_cases(web, rooms, (2, 1), falling), (1, 2))
        again = put_at(falling, [0, 0], ("flow", [ZERO, ZERO, (1, 2)], []))
        self.assertEqual(refusal(claim_of_flow_cases, web, rooms, (2, 1), again), ("NoCases", [0, 0]))

    def test_long_numbers(self):
        web = beside(3)
        rooms = [(1, LONG), (LONG, LONG - 1), (LONG, 1)]
        cases = write_cases(web, rooms, (1, 1), the_most)
        self.assertEqual(claim_of_flow_cases(web, rooms, (1, 1), cases), pair(claimed(web, cases)))


class TestRefused(unittest.TestCase):
    def test_of_other_kinds(self):
        for thing in odd_things() + ["flow", ("flow",), ("flow", [ZERO] * 5), ["flow", [ZERO] * 5, []], {"flow": []},
                                     ("way", [0, 1], []), ("flow", [0, 1], [])]:
            self.assertEqual(refusal(claim_of_flow_cases, diamond(), ROOMS, (0, 1), thing), ("NoCases", []))

    def test_a_truth_for_a_number(self):
        web, rooms = beside(2), [(1, 1), (1, 1)]
        for number, flow in ((0, [(1, 1), ZERO]), (1, [ZERO, (-1, 1)])):
            inner = ("flow", [ZERO, ZERO], [])
            self.assertEqual(claim_of_flow_cases(web, rooms, (1, 1), ("flow", flow, [(number, inner)])), ZERO)
            wrong = ("flow", flow, [(bool(number), inner)])
            self.assertEqual(refusal(claim_of_flow_cases, web, rooms, (1, 1), wrong), ("NoCases", []))

    def test_each_case_spoilt(self):
        rooms = [(2, 1), (1, 2), (3, 1), (1, 3)]
        for web, some, purse, pick in ((beside(4), rooms, (2, 1), the_most), (beside(4), rooms, (1, 1), half),
                                       (diamond(), ROOMS, (5, 6), the_most)):
            right = write_cases(web, some, purse, pick)
            self.assertEqual(claim_of_flow_cases(web, some, purse, right), pair(claimed(web, right)))
            for path in all_paths(right):
                case = at_path(right, path)
                taken = [at_path(right, path[:many])[2][path[many]][0] for many in range(len(path))]
                for wrong in spoilt_case(case) + spoilt_flows(some, taken, case):
                    self.assertEqual(refusal(claim_of_flow_cases, web, some, purse, put_at(right, path, wrong)),
                                     ("NoCases", path), (path, wrong))

    def test_flows_that_are_none(self):
        right = write_cases(diamond(), ROOMS, (5, 6), the_most)
        within = [path for path in all_paths(right) if path]
        self.assertGreater(len(within), 2)
        for path in [[]] + within:
            for flow in ([(4, 1), (2, 1), ZERO, (-2, 1), (-2, 1)], [(1, 1), ZERO, ZERO, ZERO, ZERO],
                         [(1, 1), (1, 1), ZERO, ZERO, (1, 3)], [ZERO, ZERO, (-1, 2), (1, 2), ZERO], [ZERO] * 4,
                         [ZERO] * 6, [0] * 5, ["0"] * 5, [None] * 5, [(0, 2)] * 5):
                wrong = put_at(right, path, ("flow", flow, at_path(right, path)[2]))
                self.assertEqual(refusal(claim_of_flow_cases, diamond(), ROOMS, (5, 6), wrong), ("NoCases", path))

    def test_less_goes_from_first(self):
        web = (["a", "b", "c"], [tie("b", "a", "one", (1, 1), None), tie("c", "b", "one", (1, 1), None)], "a", "c")
        wrong = ("flow", [(1, 1), (1, 1)], [])
        self.assertEqual(refusal(claim_of_flow_cases, web, [(1, 1)] * 2, (0, 1), wrong), ("NoCases", []))

    def test_of_two_the_first(self):
        web, rooms = beside(4), [(2, 1), (1, 2), (3, 1), (1, 3)]
        right = write_cases(web, rooms, (2, 1), the_most)
        paths = all_paths(right)
        self.assertGreater(len(paths), 6)
        for number, path in enumerate(paths):
            for later in paths[number + 1:]:
                if later[:len(path)] != path:
                    both = put_at(put_at(right, later, None), path, None)
                    self.assertEqual(refusal(claim_of_flow_cases, web, rooms, (2, 1), both), ("NoCases", path))

    def test_cases_that_hold_themselves(self):
        inner = []
        ring = ("flow", [(1, 1), ZERO], inner)
        inner.append((0, ring))
        self.assertEqual(refusal(claim_of_flow_cases, beside(2), [(1, 1)] * 2, (9, 1), ring), ("NoCases", [0]))

    def test_order_of_refusals(self):
        right = ("flow", [ZERO] * 5, [])
        for web in WRONG_WEBS:
            self.assertEqual(refusal(claim_of_flow_cases, web, None, None, None), BAD_WEB)
            self.assertEqual(refusal(claim_of_flow_cases, web, ROOMS, (0, 1), right), BAD_WEB)
        for rooms in wrong_lists(ROOMS):
            self.assertEqual(refusal(claim_of_flow_cases, diamond(), rooms, None, None), ("NoRooms",))
            self.assertEqual(refusal(claim_of_flow_cases, diamond(), rooms, (0, 1), right), ("NoRooms",))
        for purse in WRONG_PURSES + (Prickly(),):
            self.assertEqual(refusal(claim_of_flow_cases, diamond(), ROOMS, purse, None), ("NoPurse",))
            self.assertEqual(refusal(claim_of_flow_cases, diamond(), ROOMS, purse, right), ("NoPurse",))


class TestPromise(unittest.TestCase):
    def check(self, web, rooms, purse, cases):
        ahead = deep((web, rooms, purse, cases))
        claim = claim_of_flow_cases(web, rooms, purse, cases)
        self.assertEqual(claim, pair(claimed(web, cases)))
        for taking in all_takings(web, purse):
            self.assertGreaterEqual(most_through(web, rooms, taking), Fraction(*claim))
        self.assertEqual((web, rooms, purse, cases), ahead)
        self.assertEqual(claim_of_flow_cases(web, rooms, purse, cases), claim)

    def test_cases_that_are_let_by(self):
        chance = random.Random(71)
        seen = 0
        for web in some_webs(71, 120):
            purse = some_ratio(chance)
            rooms = [some_ratio(chance) for one in web[1]]
            if most_at_a_time(web, purse) > 3:
                continue
            for pick in (the_most, half, nothing, along_some_way(chance)):
                cases = write_cases(web, rooms, purse, pick)
                seen += 1 if cases[2] else 0
                self.check(web, rooms, purse, cases)
        self.assertGreater(seen, 60)

    def test_cases_of_another_purse_or_web(self):
        chance = random.Random(72)
        webs = [web for web in some_webs(72, 400, 3, 5) if web[1]]
        seen = {None: 0, "NoCases": 0}
        for web in webs:
            some = [some_ratio(chance) for one in web[1]]
            purse = some_ratio(chance)
            cases = write_cases(web, some, purse, chance.choice((the_most, half)))
            others = [pair(Fraction(*room) + chance.choice((0, 0, 0, 1))) for room in some]
            other = chance.choice((purse, pair(Fraction(*purse) / 2), some_ratio(chance)))
            told = refusal(claim_of_flow_cases, web, others, other, cases)
            seen[None if told is None else told[0]] += 1
            if told is None:
                self.check(web, others, other, cases)
        self.assertTrue(min(seen.values()) > 20, seen)


if __name__ == "__main__":
    unittest.main()
