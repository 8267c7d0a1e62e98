import random
import unittest
from fractions import Fraction

from farthestcut.longcases import best_longer, claim_of_longer
from farthestcut.longer import lets_longer_prices, longer_length
from farthestcut.takings import is_within, look_at_taking
from helper import (
    BAD_WEB, WRONG_PURSES, WRONG_WEBS, Prickly, all_paths, all_sides, all_takings, all_ways, at_path, deep, diamond,
    full_web, is_askers_own, leads_out, lengthened, most_at_a_time, odd_things, pair, purses_around, put_at, refusal,
    size, some_ratio, some_webs, spoilt_case, spoilt_ways, tie, ways_in, worth, wrong_lists,
)

LONG = 10 ** 60 - 1
ZERO = (0, 1)
ADDS = [(1, 1), (2, 1), (1, 2), (7, 1), (1, 6)]


def write_cases(web, adds, purse, pick, ahead=(), kept=()):
    """Cases by the document's words, the way of each picked of all; None where the web has no way."""
    ways = all_ways(web)
    if not ways:
        return None
    way = pick(ways, lambda one: size(lengthened(web, adds, ahead), one))
    inner = []
    for number in way:
        if web[1][number][4] is None or number in ahead or number in kept:
            continue
        if worth(web, ahead + (number,)) <= Fraction(*purse):
            others = tuple(one for one, case in inner)
            inner.append((number, write_cases(web, adds, purse, pick, ahead + (number,), kept + others)))
    return ("way", way, inner)


def the_least(ways, long):
    return min(ways, key=long)


def the_first(ways, long):
    return ways[0]


def any_of(chance):
    return lambda ways, long: chance.choice(ways)


def claimed(web, adds, case, ahead=()):
    sizes = [size(lengthened(web, adds, ahead), case[1])]
    return max(sizes + [claimed(web, adds, inner, ahead + (number,)) for number, inner in case[2]])


def lengths_by_all(web, adds, purse):
    """Of each lengthening within the purse the least length, or None."""
    ways = all_ways(web)
    told = []
    for lengthening in all_takings(web, purse):
        long = lengthened(web, adds, lengthening)
        told.append(min((size(long, way) for way in ways), default=None))
    return told


def beside(count, worths=((1, 1),)):
    return (["a", "b"], [tie("a", "b", "one", (k, 1), worths[k % len(worths)]) for k in range(count)], "a", "b")


class TestClaim(unittest.TestCase):
    def test_nothing_can_be_made_longer(self):
        self.assertEqual(claim_of_longer(diamond(), ADDS, (0, 1), ("way", [0, 1], [])), (3, 1))
        self.assertEqual(claim_of_longer(diamond(), ADDS, (0, 1), ("way", [2, 3], [])), (4, 1))

    def test_one_can_be_made_longer(self):
        cases = ("way", [0, 1], [(1, ("way", [0, 4, 3], []))])
        self.assertEqual(claim_of_longer(diamond(), ADDS, (1, 2), cases), (23, 6))
        other = ("way", [0, 1], [(1, ("way", [0, 1], []))])
        self.assertEqual(claim_of_longer(diamond(), ADDS, (1, 2), other), (5, 1))

    def test_a_tie_met_again_has_no_case(self):
        web, adds = beside(1), [(5, 1)]
        again = ("way", [0], [(0, ("way", [0], []))])
        self.assertEqual(claim_of_longer(web, adds, (1, 1), again), (5, 1))
        self.assertEqual(claim_of_longer(web, adds, (99, 1), again), (5, 1))
        twice = ("way", [0], [(0, ("way", [0], [(0, ("way", [0], []))]))])
        self.assertEqual(refusal(claim_of_longer, web, adds, (99, 1), twice), ("NoCases", [0]))
        self.assertEqual(refusal(claim_of_longer, web, adds, (99, 1), ("way", [0], [])), ("NoCases", []))

    def test_as_long_as_by_the_tuples_ahead(self):
        web = (["a", "b", "c"], [tie("a", "b"), tie("b", "c"), tie("a", "c", "both", (9, 1), None)], "a", "c")
        adds = [(10, 1), (100, 1), (1000, 1)]
        right = ("way", [0, 1], [(0, ("way", [0, 1], [(1, ("way", [0, 1], []))])), (1, ("way", [0, 1], []))])
        self.assertEqual(claim_of_longer(web, adds, (2, 1), right), (112, 1))
        right = put_at(right, [0, 0], ("way", [2], []))
        self.assertEqual(claim_of_longer(web, adds, (2, 1), right), (102, 1))
        right = put_at(right, [1], ("way", [2], []))
        self.assertEqual(claim_of_longer(web, adds, (2, 1), right), (12, 1))
        right = put_at(right, [0], ("way", [2], []))
        self.assertEqual(claim_of_longer(web, adds, (2, 1), right), (9, 1))

    def test_a_tie_ahead_is_not_lengthened(self):
        """In the second tuple's case the first one's tie is kept, and as long as it was."""
        web = (["a", "b", "c"], [tie("a", "b"), tie("b", "c")], "a", "c")
        right = ("way", [0, 1], [(0, ("way", [0, 1], [])), (1, ("way", [0, 1], []))])
        self.assertEqual(claim_of_longer(web, [(3, 1), (5, 1)], (1, 1), right), (7, 1))
        both = ("way", [0, 1], [(0, ("way", [0, 1], [])), (1, ("way", [0, 1], [(0, ("way", [0, 1], []))]))])
        self.assertEqual(refusal(claim_of_longer, web, [(3, 1), (5, 1)], (2, 1), both), ("NoCases", [0]))
        both = put_at(both, [0], ("way", [0, 1], [(1, ("way", [0, 1], []))]))
        self.assertEqual(refusal(claim_of_longer, web, [(3, 1), (5, 1)], (2, 1), both), ("NoCases", [1]))

    def test_the_greatest_may_be_the_outermost(self):
        self.assertEqual(claim_of_longer(beside(6), [ZERO] * 6, (1, 1), ("way", [5], [(5, ("way", [1], []))])), (5, 1))

    def test_worths_just_at_the_purse_and_a_little_more(self):
        web, adds = beside(2, ((1, 3),)), [(1, 1), (1, 1)]
        bare, full = ("way", [0], []), ("way", [0], [(0, ("way", [1], []))])
        little = Fraction(1, LONG)
        for purse, right, wrong in ((Fraction(1, 3) - little, bare, full), (Fraction(1, 3), full, bare),
                                    (Fraction(1, 3) + little, full, bare)):
            self.assertIsNone(refusal(claim_of_longer, web, adds, pair(purse), right))
            self.assertEqual(refusal(claim_of_longer, web, adds, pair(purse), wrong), ("NoCases", []))
        two = ("way", [0], [(0, ("way", [1], [(1, ("way", [0], []))]))])
        self.assertEqual(claim_of_longer(web, adds, (2, 3), two), (1, 1))
        self.assertEqual(refusal(claim_of_longer, web, adds, (2, 3), full), ("NoCases", [0]))

    def test_watched_ties(self):
        web = beside(2, (None, (1, 1)))
        self.assertEqual(claim_of_longer(web, [(9, 1), (9, 1)], (9, 1), ("way", [0], [])), ZERO)
        wrong = ("way", [0], [(0, ("way", [1], []))])
        self.assertEqual(refusal(claim_of_longer, web, [(9, 1), (9, 1)], (9, 1), wrong), ("NoCases", []))

    def test_adds_of_nought(self):
        cases = write_cases(diamond(), [ZERO] * 5, (5, 6), the_least)
        self.assertEqual(claim_of_longer(diamond(), [ZERO] * 5, (5, 6), cases), (3, 1))

    def test_long_numbers(self):
        web = (["a", "b"], [tie("a", "b", "one", (1, LONG)), tie("a", "b", "one", (LONG, LONG - 1))], "a", "b")
        adds = [(LONG - 3, LONG - 2), (LONG, 1)]
        cases = write_cases(web, adds, (1, 1), the_least)
        self.assertEqual(claim_of_longer(web, adds, (1, 1), cases), pair(claimed(web, adds, cases)))


class TestRefused(unittest.TestCase):
    def test_of_other_kinds(self):
        for thing in odd_things() + ["way", ("way",), ("way", [0, 1]), ["way", [0, 1], []], ("flow", [0, 1], [])]:
            self.assertEqual(refusal(claim_of_longer, diamond(), ADDS, (0, 1), thing), ("NoCases", []))

    def test_each_case_spoilt(self):
        for web, adds, purse, pick in ((beside(3), [(5, 1)] * 3, (2, 1), the_least),
                                       (diamond(), ADDS, (4, 3), the_least), (diamond(), ADDS, (4, 3), the_first)):
            right = write_cases(web, adds, purse, pick)
            self.assertEqual(claim_of_longer(web, adds, purse, right), pair(claimed(web, adds, right)))
            self.assertGreater(len(all_paths(right)), 2)
            for path in all_paths(right):
                for wrong in spoilt_case(at_path(right, path)) + spoilt_ways(at_path(right, path)):
                    self.assertEqual(refusal(claim_of_longer, web, adds, purse, put_at(right, path, wrong)),
                                     ("NoCases", path), (path, wrong))

    def test_of_two_the_first(self):
        right = write_cases(diamond(), ADDS, (4, 3), the_first)
        paths = all_paths(right)
        for number, path in enumerate(paths):
            for later in paths[number + 1:]:
                if later[:len(path)] != path:
                    both = put_at(put_at(right, later, None), path, None)
                    self.assertEqual(refusal(claim_of_longer, diamond(), ADDS, (4, 3), both), ("NoCases", path))

    def test_cases_that_hold_themselves(self):
        inner = []
        ring = ("way", [0], inner)
        inner.append((0, ring))
        self.assertEqual(refusal(claim_of_longer, beside(2), [(1, 1)] * 2, (9, 1), ring), ("NoCases", [0]))

    def test_order_of_refusals(self):
        right = ("way", [0, 1], [])
        for web in WRONG_WEBS:
            self.assertEqual(refusal(claim_of_longer, web, None, None, None), BAD_WEB)
            self.assertEqual(refusal(claim_of_longer, web, ADDS, (0, 1), right), BAD_WEB)
            self.assertEqual(refusal(best_longer, web, None, None), BAD_WEB)
            self.assertEqual(refusal(best_longer, web, ADDS, (99, 1)), BAD_WEB)
        for adds in wrong_lists(ADDS):
            self.assertEqual(refusal(claim_of_longer, diamond(), adds, None, None), ("NoAdds",))
            self.assertEqual(refusal(claim_of_longer, diamond(), adds, (0, 1), right), ("NoAdds",))
            for purse in (None, (0, 1), (99, 1)):
                self.assertEqual(refusal(best_longer, diamond(), adds, purse), ("NoAdds",))
        for purse in WRONG_PURSES + (Prickly(),):
            self.assertEqual(refusal(claim_of_longer, diamond(), ADDS, purse, None), ("NoPurse",))
            self.assertEqual(refusal(claim_of_longer, diamond(), ADDS, purse, right), ("NoPurse",))
            self.assertEqual(refusal(best_longer, diamond(), ADDS, purse), ("NoPurse",))
            self.assertEqual(refusal(best_longer, beside(5), ADDS, purse), ("NoPurse",))

    def test_more_than_three_at_once(self):
        for ends in (("a", "b"), ("b", "a")):
            web, adds = (["a", "b"], [tie(*ends)] * 4, "a", "b"), [(1, 1)] * 4
            for purse in ((4, 1), (5, 1), (LONG, 1)):
                self.assertEqual(refusal(best_longer, web, adds, purse), ("TooMany",))
                self.assertEqual(refusal(best_longer, web, [ZERO] * 4, purse), ("TooMany",))
            for purse in ((3, 1), pair(4 - Fraction(1, LONG))):
                self.assertIsNone(refusal(best_longer, web, adds, purse))


class TestPromise(unittest.TestCase):
    def check(self, web, adds, purse, cases):
        ahead = deep((web, adds, purse, cases))
        claim = claim_of_longer(web, adds, purse, cases)
        self.assertEqual(claim, pair(claimed(web, adds, cases)))
        self.assertLessEqual(max(lengths_by_all(web, adds, purse)), Fraction(*claim))
        self.assertEqual((web, adds, purse, cases), ahead)
        self.assertEqual(claim_of_longer(web, adds, purse, cases), claim)

    def test_cases_that_are_let_by(self):
        chance = random.Random(101)
        seen = 0
        for web in some_webs(101, 120):
            purse = some_ratio(chance)
            adds = [some_ratio(chance) for one in web[1]]
            if most_at_a_time(web, purse) > 3:
                continue
            for pick in (the_least, the_first, any_of(chance)):
                cases = write_cases(web, adds, purse, pick)
                if cases is not None:
                    seen += 1 if cases[2] else 0
                    self.check(web, adds, purse, cases)
        self.assertGreater(seen, 60)

    def test_cases_of_another_purse(self):
        chance = random.Random(102)
        seen = {None: 0, "NoCases": 0}
        for web in some_webs(102, 150, 4, 6):
            purse, other = some_ratio(chance), some_ratio(chance)
            adds = [some_ratio(chance) for one in web[1]]
            cases = write_cases(web, adds, purse, any_of(chance))
            if cases is not None:
                told = refusal(claim_of_longer, web, adds, other, cases)
                seen[None if told is None else told[0]] += 1
                if told is None:
                    self.check(web, adds, other, cases)
        self.assertGreater(min(seen.values()), 20, seen)


class TestBest(unittest.TestCase):
    def check(self, web, adds, purse):
        """What is told, held against all lengthenings within the purse."""
        ahead = deep((web, adds, purse))
        told = best_longer(web, adds, purse)
        lengths = lengths_by_all(web, adds, purse)
        self.assertIs(told.__class__, tuple)
        if None in lengths:
            word, side = told
            self.assertEqual(word, "none")
            self.assertIn(side, all_sides(web))
            self.assertFalse(any(leads_out(one, side) for one in web[1]))
        else:
            self.check_left(web, adds, purse, told, pair(max(lengths)))
        self.assertTrue(is_askers_own(told, (web, adds, purse)))
        self.assertEqual((web, adds, purse), ahead)
        self.assertEqual(best_longer(web, adds, purse), told)
        return told

    def check_left(self, web, adds, purse, told, length):
        word, lengthening, way, prices, cases = told
        self.assertEqual(word, "left")
        self.assertIsNone(look_at_taking(web, lengthening))
        self.assertIs(is_within(web, lengthening, purse), True)
        self.assertEqual(longer_length(web, adds, lengthening, way), length)
        self.assertIs(lets_longer_prices(web, adds, lengthening, prices), True)
        self.assertEqual(prices[web[3]], length)
        self.assertEqual(claim_of_longer(web, adds, purse, cases), length)

    def test_of_the_diamond(self):
        self.assertEqual(best_longer(diamond(), ADDS, (0, 1))[:3], ("left", [], [0, 1]))
        self.assertEqual(self.check(diamond(), ADDS, (1, 2))[1], [1])
        self.assertEqual(self.check(diamond(), ADDS, (5, 6))[1], [1, 4])
        self.assertEqual(self.check(diamond(), ADDS, (3, 2))[3]["d"], (4, 1))

    def test_without_a_way(self):
        for web, side in (((["a", "b"], [], "a", "b"), ["a"]), ((["a", "b"], [tie("b", "a")], "a", "b"), ["a"]),
                          ((["c", "b", "a"], [tie("a", "b", "both"), tie("c", "b")], "a", "c"), ["b", "a"])):
            for purse in ((0, 1), (1, 1), (2, 1)):
                self.assertEqual(self.check(web, [(1, 1)] * len(web[1]), purse), ("none", side))

    def test_all_ways_can_be_made_longer(self):
        web = beside(3)
        self.assertEqual(self.check(web, [(5, 1)] * 3, (3, 1))[1:3], ([0, 1, 2], [0]))
        self.assertEqual(self.check(web, [(5, 1)] * 3, (2, 1))[2], [2])
        self.assertEqual(self.check(web, [(1, 2)] * 3, (3, 1))[1:3], ([0], [0]))

    def test_several_of_one_way(self):
        row = (list("abcd"), [tie("a", "b"), tie("b", "c"), tie("c", "d")], "a", "d")
        self.assertEqual(self.check(row, [(1, 1), (2, 1), (3, 1)], (2, 1))[1], [1, 2])
        self.assertEqual(self.check(row, [(1, 1), (2, 1), (3, 1)], (3, 1))[1], [0, 1, 2])
        self.assertEqual(self.check(row, [(1, 1), (2, 1), (3, 1)], (1, 1))[1], [2])

    def test_adds_of_nought(self):
        told = self.check(diamond(), [ZERO] * 5, (5, 6))
        self.assertEqual(told[3]["d"], (3, 1))

    def test_watched_ties(self):
        web = beside(3, (None, (1, 1), (1, 1)))
        self.assertEqual(self.check(web, [(9, 1)] * 3, (9, 1))[2], [0])

    def test_worths_just_at_the_purse_and_a_little_less(self):
        web, adds = beside(3, ((1, 2), (1, 3), (5, 1))), [(9, 1)] * 3
        little = Fraction(1, LONG)
        self.assertEqual(self.check(web, adds, (5, 6))[1:3], ([0, 1], [2]))
        self.assertEqual(self.check(web, adds, pair(Fraction(5, 6) - little))[1:3], ([0], [1]))

    def test_long_numbers(self):
        ties = [tie("a", "b", "one", (LONG - k, LONG - k - 1), (1, LONG - k)) for k in range(0, 8, 2)]
        web = (["a", "b"], ties, "a", "b")
        two = pair(Fraction(1, LONG) + Fraction(1, LONG - 2))
        self.check(web, [(1, LONG), (LONG, 1), (1, LONG - 1), (LONG, 2)], two)
        self.check(web, [(1, LONG), (1, LONG - 1), (1, LONG - 3), (1, 2)], pair(Fraction(3, LONG)))

    def test_on_small_webs(self):
        chance = random.Random(103)
        seen = {}
        for web in some_webs(103, 120):
            adds = [some_ratio(chance) for one in web[1]]
            for purse in purses_around(chance, web):
                if most_at_a_time(web, purse) <= 3:
                    told = self.check(web, adds, purse)
                    many = len(told[1]) if told[0] == "left" else told[0]
                    seen[many] = seen.get(many, 0) + 1
        self.assertGreater(min(seen.get(many, 0) for many in ("none", 0, 1, 2)), 20, seen)

    def test_on_webs_of_full_size(self):
        chance = random.Random(104)
        for seed in range(3):
            web = full_web(seed)
            told = self.check(web, [some_ratio(chance) for one in web[1]], (3, 1))
            self.assertTrue(all(way in all_ways(web) for way in ways_in(told[4])))

    def test_what_is_told_changes_nothing(self):
        web, adds = diamond(), list(ADDS)
        told = best_longer(web, adds, (5, 6))
        picture = deep(told)
        for one in (told[1], told[2], told[3], told[4][1], told[4][2]):
            one.clear()
        self.assertEqual((web, adds), (diamond(), ADDS))
        told = best_longer(web, adds, (5, 6))
        self.assertEqual(told, picture)
        web[1].clear()
        adds.clear()
        self.assertEqual(told, picture)
        none = (["a", "b"], [], "a", "b")
        best_longer(none, [], (0, 1))[1].append("b")
        self.assertEqual(best_longer(none, [], (0, 1)), ("none", ["a"]))


if __name__ == "__main__":
    unittest.main()
