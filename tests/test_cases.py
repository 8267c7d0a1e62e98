import random
import unittest
from fractions import Fraction

from farthestcut.cases import claim_of_cases
from helper import (
    all_paths, all_takings, all_ways, at_path, deep, diamond, least_size, odd_things, pair, put_at, refusal, size,
    some_ratio, some_webs, spoilt_case, spoilt_ways, tie,
)

LONG = 10 ** 60 - 1
BAD_WEB = ("NoWeb", "web", None)


def write_cases(web, purse, pick, taken=(), kept=()):
    """Cases by the document's words, the way of each picked of all that there are; None where there is none."""
    ways = all_ways(web, taken)
    if not ways:
        return None
    way = pick(ways)
    spent = sum((Fraction(*web[1][number][4]) for number in taken), Fraction(0))
    inner = []
    for number in way:
        worth = web[1][number][4]
        if worth is None or number in kept or spent + Fraction(*worth) > Fraction(*purse):
            continue
        ahead = tuple(one for one, case in inner)
        case = write_cases(web, purse, pick, taken + (number,), kept + ahead)
        if case is None:
            return None
        inner.append((number, case))
    return ("way", way, inner)


def claimed(web, case):
    return max([size(web, case[1])] + [claimed(web, inner) for number, inner in case[2]])


def ladder():
    """Three ties beside one another from a to b, three from b to c, worths (1, 1); one watched tie from a to c."""
    ties = [tie("a", "b", "one", (1, 1)), tie("a", "b", "one", (2, 1)), tie("b", "a", "both", (3, 1))]
    ties += [tie("b", "c", "one", (1, 2)), tie("c", "b", "both", (3, 2)), tie("b", "c", "one", (5, 2))]
    return (["a", "b", "c"], ties + [tie("a", "c", "one", (9, 1), None)], "a", "c")


class TestRight(unittest.TestCase):
    def test_nothing_can_be_taken(self):
        self.assertEqual(claim_of_cases(diamond(), (0, 1), ("way", [0, 1], [])), (3, 1))
        self.assertEqual(claim_of_cases(diamond(), (0, 1), ("way", [2, 3], [])), (4, 1))

    def test_one_can_be_taken(self):
        inner = [(1, ("way", [0, 4, 3], []))]
        self.assertEqual(claim_of_cases(diamond(), (1, 2), ("way", [0, 1], inner)), (23, 6))
        other = [(1, ("way", [2, 3], []))]
        self.assertEqual(claim_of_cases(diamond(), (1, 2), ("way", [0, 1], other)), (4, 1))

    def test_the_greatest_may_be_the_outermost(self):
        web = (["a", "b"], [tie("a", "b", "one", (5, 1)), tie("a", "b", "one", (2, 1))], "a", "b")
        self.assertEqual(claim_of_cases(web, (1, 1), ("way", [0], [(0, ("way", [1], []))])), (5, 1))
        self.assertEqual(claim_of_cases(web, (1, 1), ("way", [1], [(1, ("way", [0], []))])), (5, 1))

    def test_worths_just_at_the_purse_and_a_little_more(self):
        web = diamond()
        bare = ("way", [0, 1], [])
        full = ("way", [0, 1], [(1, ("way", [2, 3], []))])
        little = Fraction(1, 10 ** 20)
        under, over = pair(Fraction(1, 2) - little), pair(Fraction(1, 2) + little)
        self.assertEqual(claim_of_cases(web, under, bare), (3, 1))
        self.assertEqual(refusal(claim_of_cases, web, under, full), ("NoCases", []))
        for purse in ((1, 2), over):
            self.assertEqual(claim_of_cases(web, purse, full), (4, 1))
            self.assertEqual(refusal(claim_of_cases, web, purse, bare), ("NoCases", []))

    def test_worths_together_at_the_purse(self):
        web = (["a", "b"], [tie("a", "b", "one", (k, 1), (1, k + 1)) for k in range(1, 4)], "a", "b")
        two = ("way", [0], [(0, ("way", [1], [(1, ("way", [2], []))]))])
        one = ("way", [0], [(0, ("way", [1], []))])
        self.assertEqual(claim_of_cases(web, (5, 6), two), (3, 1))
        self.assertEqual(refusal(claim_of_cases, web, (5, 6), one), ("NoCases", [0]))
        self.assertEqual(claim_of_cases(web, (4, 5), one), (2, 1))
        self.assertEqual(refusal(claim_of_cases, web, (4, 5), two), ("NoCases", [0]))

    def test_watched_ties(self):
        web = ladder()
        self.assertEqual(claim_of_cases(web, (9, 1), ("way", [6], [])), (9, 1))
        self.assertEqual(refusal(claim_of_cases, web, (9, 1), ("way", [6], [(6, ("way", [0, 3], []))])), ("NoCases", []))

    def test_kept_by_the_tuples_ahead(self):
        web = ladder()
        right = ("way", [0, 3], [(0, ("way", [1, 3], [(1, ("way", [6], [])), (3, ("way", [6], []))])),
                                 (3, ("way", [0, 4], [(4, ("way", [0, 5], []))]))])
        self.assertEqual(claim_of_cases(web, (2, 1), right), (9, 1))
        kept = put_at(right, [1], ("way", [0, 4], [(0, ("way", [6], [])), (4, ("way", [0, 5], []))]))
        self.assertEqual(refusal(claim_of_cases, web, (2, 1), kept), ("NoCases", [1]))
        free = put_at(right, [0], ("way", [1, 3], [(1, ("way", [6], []))]))
        self.assertEqual(refusal(claim_of_cases, web, (2, 1), free), ("NoCases", [0]))

    def test_kept_stays_kept_deeper(self):
        web = ladder()
        right = ("way", [0, 3], [(0, ("way", [6], [])),
                                 (3, ("way", [0, 4], [(4, ("way", [0, 5], [(5, ("way", [6], []))]))]))])
        self.assertEqual(claim_of_cases(web, (3, 1), right), (9, 1))
        wrong = put_at(right, [1, 0], ("way", [0, 5], [(0, ("way", [6], [])), (5, ("way", [6], []))]))
        self.assertEqual(refusal(claim_of_cases, web, (3, 1), wrong), ("NoCases", [1, 0]))

    def test_taken_in_falling_order(self):
        web = (["a", "b"], [tie("a", "b", "one", (k, 1)) for k in range(1, 4)], "a", "b")
        falling = ("way", [2], [(2, ("way", [1], [(1, ("way", [0], []))]))])
        self.assertEqual(claim_of_cases(web, (2, 1), falling), (3, 1))
        self.assertEqual(refusal(claim_of_cases, web, (2, 1), put_at(falling, [0, 0], ("way", [2], []))),
                         ("NoCases", [0, 0]))

    def test_long_numbers(self):
        web = (["a", "b"], [tie("a", "b", "one", (1, LONG - k), (1, LONG - k)) for k in range(4)], "a", "b")
        cases = ("way", [0], [(0, ("way", [1], [(1, ("way", [2], []))]))])
        purse = pair(Fraction(1, LONG) + Fraction(1, LONG - 1))
        self.assertEqual(claim_of_cases(web, purse, cases), (1, LONG - 2))
        self.assertEqual(refusal(claim_of_cases, web, (2, LONG), cases), ("NoCases", [0]))

    def test_of_many_takings(self):
        web = (["a", "b"], [tie("a", "b", "one", (1, 1), None)] + [tie("a", "b")] * 13, "a", "b")
        case = ("way", [0], [])
        for number in range(1, 14):
            case = ("way", [number], [(number, case)])
        self.assertEqual(claim_of_cases(web, (13, 1), case), (1, 1))


class TestRefused(unittest.TestCase):
    def test_of_other_kinds(self):
        for thing in odd_things() + ["way", ("way",), ("way", [0, 1]), ["way", [0, 1], []], {"way": [0, 1]}]:
            self.assertEqual(refusal(claim_of_cases, diamond(), (0, 1), thing), ("NoCases", []))

    def test_a_truth_for_a_number(self):
        inner = ("way", [2, 3], [])
        self.assertEqual(claim_of_cases(diamond(), (1, 2), ("way", [0, 1], [(1, inner)])), (4, 1))
        self.assertEqual(refusal(claim_of_cases, diamond(), (1, 2), ("way", [0, 1], [(True, inner)])), ("NoCases", []))
        self.assertEqual(refusal(claim_of_cases, diamond(), (1, 2), ("way", [False, 1], [(1, inner)])), ("NoCases", []))

    def test_each_case_spoilt(self):
        webs = [(ladder(), (2, 1), min), (ladder(), (3, 1), max), (diamond(), (1, 2), max)]
        for web, purse, pick in webs:
            right = write_cases(web, purse, pick)
            self.assertEqual(claim_of_cases(web, purse, right), pair(claimed(web, right)))
            for path in all_paths(right):
                for wrong in spoilt_case(at_path(right, path)) + spoilt_ways(at_path(right, path)):
                    self.assertEqual(refusal(claim_of_cases, web, purse, put_at(right, path, wrong)),
                                     ("NoCases", path), (path, wrong))

    def test_of_two_the_first(self):
        web, purse = ladder(), (2, 1)
        right = write_cases(web, purse, min)
        paths = all_paths(right)
        self.assertGreater(len(paths), 4)
        for number, path in enumerate(paths):
            for later in paths[number + 1:]:
                if later[:len(path)] == path:
                    continue
                both = put_at(put_at(right, later, None), path, None)
                self.assertEqual(refusal(claim_of_cases, web, purse, both), ("NoCases", path))

    def test_a_case_ahead_of_those_within_it(self):
        web, purse = ladder(), (2, 1)
        right = write_cases(web, purse, min)
        for path in all_paths(right):
            case = at_path(right, path)
            if case[2]:
                inner = [(number, None) for number, one in case[2]]
                wrong = put_at(right, path, (case[0], case[1], inner))
                self.assertEqual(refusal(claim_of_cases, web, purse, wrong), ("NoCases", path + [0]))
                less = put_at(right, path, (case[0], case[1], inner[:-1]))
                self.assertEqual(refusal(claim_of_cases, web, purse, less), ("NoCases", path))

    def test_deeper_ahead_of_later(self):
        web = ladder()
        right = write_cases(web, (2, 1), min)
        deeper = [path for path in all_paths(right) if len(path) == 2 and path[0] == 0][0]
        wrong = put_at(put_at(right, [1], None), deeper, None)
        self.assertEqual(refusal(claim_of_cases, web, (2, 1), wrong), ("NoCases", deeper))

    def test_cases_that_hold_themselves(self):
        inner = []
        ring = ("way", [0, 1], inner)
        inner.append((1, ring))
        self.assertEqual(refusal(claim_of_cases, diamond(), (1, 2), ring), ("NoCases", [0]))

    def test_order_of_refusals(self):
        for web in (None, (), ["a"]):
            self.assertEqual(refusal(claim_of_cases, web, None, None), BAD_WEB)
            self.assertEqual(refusal(claim_of_cases, web, (0, 1), ("way", [0, 1], [])), BAD_WEB)
        for purse in (None, (-1, 1), (2, 4), 1, [1, 1]):
            self.assertEqual(refusal(claim_of_cases, diamond(), purse, None), ("NoPurse",))
            self.assertEqual(refusal(claim_of_cases, diamond(), purse, ("way", [0, 1], [])), ("NoPurse",))

    def test_the_path_is_the_askers_own(self):
        web, purse = ladder(), (2, 1)
        wrong = put_at(write_cases(web, purse, min), [1], None)
        for k in range(2):
            try:
                claim_of_cases(web, purse, wrong)
            except ValueError as e:
                self.assertEqual(e.path, [1])
                e.path.append(7)


class TestPromise(unittest.TestCase):
    def check(self, web, purse, cases):
        ahead = deep((web, purse, cases))
        claim = claim_of_cases(web, purse, cases)
        self.assertEqual(claim, pair(claimed(web, cases)))
        for taking in all_takings(web, purse):
            left = least_size(web, taking)
            self.assertIsNotNone(left)
            self.assertLessEqual(left, Fraction(*claim))
        self.assertEqual((web, purse, cases), ahead)
        self.assertEqual(claim_of_cases(web, purse, cases), claim)

    def test_cases_that_are_let_by(self):
        chance = random.Random(14)
        seen = 0
        for web in some_webs(14, 150):
            purse = some_ratio(chance)
            for pick in (min, max, chance.choice, lambda ways: min(ways, key=lambda way: size(web, way))):
                cases = write_cases(web, purse, pick)
                if cases is not None:
                    seen += 1 if cases[2] else 0
                    self.check(web, purse, cases)
        self.assertGreater(seen, 50)

    def test_no_cases_where_some_taking_cuts(self):
        chance = random.Random(15)
        seen = 0
        for web in some_webs(15, 150):
            purse = some_ratio(chance)
            cut = any(least_size(web, taking) is None for taking in all_takings(web, purse))
            self.assertEqual(write_cases(web, purse, min) is None, cut)
            less = write_cases(web, (0, 1), min)
            if cut and less is not None:
                seen += 1
                self.assertEqual(refusal(claim_of_cases, web, purse, less)[0], "NoCases")
        self.assertGreater(seen, 20)

    def test_cases_of_another_purse_or_web(self):
        chance = random.Random(16)
        webs = some_webs(16, 120)
        for web in webs:
            for number in range(3):
                cases = write_cases(chance.choice(webs), some_ratio(chance), chance.choice)
                purse = some_ratio(chance)
                if cases is None:
                    continue
                told = refusal(claim_of_cases, web, purse, cases)
                if told is None:
                    self.check(web, purse, cases)
                else:
                    self.assertEqual(told[0], "NoCases")


if __name__ == "__main__":
    unittest.main()
