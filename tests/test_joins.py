import random
import unittest
from fractions import Fraction

from farthestcut.joins import treads_behind, treads_beside, webs_behind, webs_beside
from farthestcut.treads import treads_of
from farthestcut.webs import look_at_web
from helper import (
    BAD_WEB, WRONG_PURSES, WRONG_WEBS, Prickly, deep, diamond, is_askers_own, most_at_a_time, pair, refusal, some_ratio,
    some_web, tie,
)

LONG = 10 ** 60 - 1
ZERO = (0, 1)
SMALL = (["x", "y"], [tie("x", "y", "one", (5, 1), (1, 3)), tie("y", "x", "both", (7, 1), None)], "x", "y")


def row_of(names, ties=0):
    """Places in a row, a tie from each to the next, and some more from the first to the second."""
    told = [tie(one, other) for one, other in zip(names, names[1:])]
    return (list(names), told + [tie(names[0], names[1])] * ties, names[0], names[-1])


def called(web, letters):
    """The web with each of its names replaced by a letter."""
    names = dict(zip(web[0], letters))
    ties = [(names[one[0]], names[one[1]]) + one[2:] for one in web[1]]
    return ([names[name] for name in web[0]], ties, names[web[2]], names[web[3]])


def longest(treads, purse):
    return [length for worth, length in treads if Fraction(*worth) <= purse][-1]


def by_all_partings(one, other, purse, both):
    """The treads by going through every purse at which something may happen, and every parting of it."""
    worths = [[Fraction(*worth) for worth, length in treads] for treads in (one, other)]
    told = []
    for at in sorted({left + right for left in worths[0] for right in worths[1] if left + right <= Fraction(*purse)}):
        found = [both(longest(one, left), longest(other, at - left)) for left in worths[0] if left <= at]
        length = None if None in found else max(found, key=lambda one: Fraction(*one))
        if not told or (told[-1][1] is not None and (length is None or Fraction(*length) > Fraction(*told[-1][1]))):
            told.append((pair(at), length))
    return told


def the_sum(one, other):
    return None if None in (one, other) else pair(Fraction(*one) + Fraction(*other))


def the_lesser(one, other):
    there = [length for length in (one, other) if length is not None]
    return min(there, key=lambda length: Fraction(*length)) if there else None


class TestBehind(unittest.TestCase):
    def test_places_and_ties_in_order(self):
        told = webs_behind(diamond(), SMALL)
        self.assertEqual(told, (["a", "b", "c", "d", "y"], diamond()[1] + [
            tie("d", "y", "one", (5, 1), (1, 3)), tie("y", "d", "both", (7, 1), None)], "a", "y"))
        told = webs_behind(SMALL, diamond())
        self.assertEqual(told[0], ["x", "y", "b", "c", "d"])
        self.assertEqual([one[:3] for one in told[1]], [
            ("x", "y", "one"), ("y", "x", "both"), ("y", "b", "one"), ("b", "d", "one"), ("y", "c", "one"),
            ("d", "c", "both"), ("c", "b", "both")])
        self.assertEqual(told[2:], ("x", "d"))

    def test_first_ones_of_any_place_in_the_list(self):
        other = (["p", "q", "r"], [tie("q", "r"), tie("p", "q")], "q", "p")
        self.assertEqual(webs_behind(SMALL, other),
                         (["x", "y", "p", "r"], SMALL[1] + [tie("y", "r"), tie("p", "y")], "x", "p"))

    def test_the_others_first_of_any_name(self):
        for name in ("a", "b", "c", "d", "e"):
            other = ([name, "z"], [tie(name, "z")], name, "z")
            self.assertEqual(webs_behind(diamond(), other),
                             (["a", "b", "c", "d", "z"], diamond()[1] + [tie("d", "z")], "a", "z"))

    def test_a_name_in_both(self):
        for name in ("a", "b", "c", "d"):
            for other in ((["x", name], [tie("x", name)], "x", name), (["x", "y", name], [], "x", "y")):
                self.assertEqual(refusal(webs_behind, diamond(), other), ("NoJoin",))
        self.assertEqual(refusal(webs_behind, diamond(), diamond()), ("NoJoin",))
        self.assertEqual(refusal(webs_behind, SMALL, SMALL), ("NoJoin",))

    def test_just_seven_places_and_one_more(self):
        self.assertIsNone(look_at_web(webs_behind(row_of("abcd"), row_of("wxyz"))))
        self.assertEqual(len(webs_behind(row_of("abcd"), row_of("wxyz"))[0]), 7)
        self.assertEqual(refusal(webs_behind, row_of("abcd"), row_of("vwxyz")), ("NoJoin",))
        self.assertEqual(refusal(webs_behind, row_of("abcde"), row_of("wxyz")), ("NoJoin",))

    def test_just_fourteen_ties_and_one_more(self):
        self.assertEqual(len(webs_behind(row_of("ab", 6), row_of("xy", 6))[1]), 14)
        self.assertEqual(refusal(webs_behind, row_of("ab", 6), row_of("xy", 7)), ("NoJoin",))
        self.assertEqual(refusal(webs_behind, row_of("ab", 7), row_of("xy", 6)), ("NoJoin",))


class TestBeside(unittest.TestCase):
    def test_places_and_ties_in_order(self):
        self.assertEqual(webs_beside(diamond(), SMALL), (["a", "b", "c", "d"], diamond()[1] + [
            tie("a", "d", "one", (5, 1), (1, 3)), tie("d", "a", "both", (7, 1), None)], "a", "d"))
        told = webs_beside(SMALL, diamond())
        self.assertEqual(told[0], ["x", "y", "b", "c"])
        self.assertEqual([one[:2] for one in told[1]], [
            ("x", "y"), ("y", "x"), ("x", "b"), ("b", "y"), ("x", "c"), ("y", "c"), ("c", "b")])
        self.assertEqual(told[2:], ("x", "y"))

    def test_the_others_first_and_last_of_any_name(self):
        for first in "abcdz":
            for last in "abcdw":
                if first != last:
                    other = ([last, "y", first], [tie(first, "y"), tie("y", last)], first, last)
                    self.assertEqual(webs_beside(diamond(), other), (
                        ["a", "b", "c", "d", "y"], diamond()[1] + [tie("a", "y"), tie("y", "d")], "a", "d"))

    def test_a_web_with_itself(self):
        self.assertEqual(refusal(webs_beside, diamond(), diamond()), ("NoJoin",))
        self.assertEqual(webs_beside(SMALL, SMALL), (["x", "y"], SMALL[1] * 2, "x", "y"))

    def test_a_name_in_both(self):
        for name in ("a", "b", "c", "d"):
            other = (["x", name, "y"], [tie("x", name)], "x", "y")
            self.assertEqual(refusal(webs_beside, diamond(), other), ("NoJoin",))

    def test_just_seven_places_and_one_more(self):
        self.assertEqual(len(webs_beside(row_of("abcd"), row_of("vwxyz"))[0]), 7)
        self.assertEqual(refusal(webs_beside, row_of("abcd"), row_of("uvwxyz")), ("NoJoin",))
        self.assertEqual(refusal(webs_beside, row_of("abcde"), row_of("vwxyz")), ("NoJoin",))

    def test_just_fourteen_ties_and_one_more(self):
        self.assertEqual(len(webs_beside(row_of("ab", 6), row_of("xy", 6))[1]), 14)
        self.assertEqual(refusal(webs_beside, row_of("ab", 6), row_of("xy", 7)), ("NoJoin",))


class TestWebs(unittest.TestCase):
    def test_webs_that_are_none(self):
        for function in (webs_behind, webs_beside):
            for web in WRONG_WEBS:
                self.assertEqual(refusal(function, web, None), BAD_WEB)
                self.assertEqual(refusal(function, web, SMALL), BAD_WEB)
                self.assertEqual(refusal(function, diamond(), web), BAD_WEB)
            small = (["a"], [], "a", "a")
            self.assertEqual(refusal(function, small, None), ("NoWeb", "places", None))
            self.assertEqual(refusal(function, diamond(), small), ("NoWeb", "places", None))

    def test_what_is_handed_in_stays(self):
        things = (diamond(), deep(SMALL))
        for function in (webs_behind, webs_beside):
            for k in range(2):
                told = function(*things)
                self.assertTrue(is_askers_own(told, things))
                told[0].clear()
                told[1].clear()
        self.assertEqual(things, (diamond(), SMALL))


class TestTreads(unittest.TestCase):
    ONE = [(ZERO, (1, 1)), ((1, 1), (3, 1)), ((3, 1), (4, 1))]
    OTHER = [(ZERO, (2, 1)), ((2, 1), (7, 2)), ((3, 1), None)]

    def test_behind(self):
        self.assertEqual(treads_behind(self.ONE, self.OTHER, (3, 1)), [
            (ZERO, (3, 1)), ((1, 1), (5, 1)), ((3, 1), None)])
        self.assertEqual(treads_behind(self.ONE, self.OTHER[:2], (5, 1)), [
            (ZERO, (3, 1)), ((1, 1), (5, 1)), ((3, 1), (13, 2)), ((5, 1), (15, 2))])
        self.assertEqual(treads_behind(self.ONE[:1], self.OTHER[:1], (9, 1)), [(ZERO, (3, 1))])
        self.assertEqual(treads_behind([(ZERO, None)], self.OTHER, (9, 1)), [(ZERO, None)])

    def test_beside(self):
        self.assertEqual(treads_beside(self.ONE, self.OTHER, (3, 1)), [
            (ZERO, (1, 1)), ((1, 1), (2, 1)), ((3, 1), (3, 1))])
        self.assertEqual(treads_beside(self.ONE, self.OTHER, (6, 1)), [
            (ZERO, (1, 1)), ((1, 1), (2, 1)), ((3, 1), (3, 1)), ((5, 1), (7, 2)), ((6, 1), (4, 1))])
        self.assertEqual(treads_beside(self.ONE[:1], self.OTHER[:1], (9, 1)), [(ZERO, (1, 1))])
        self.assertEqual(treads_beside([(ZERO, None)], self.OTHER, (3, 1)), self.OTHER)
        self.assertEqual(treads_beside([(ZERO, None)], [(ZERO, None)], ZERO), [(ZERO, None)])

    def test_worths_just_at_the_purse_and_a_little_more(self):
        for little, seen in ((0, True), (Fraction(1, LONG), False), (Fraction(-1, LONG), True)):
            one = [(ZERO, (1, 1)), (pair(Fraction(1, 3) + little), (2, 1))]
            other = [(ZERO, (1, 1)), ((1, 2), (2, 1))]
            for function in (treads_behind, treads_beside):
                told = function(one, other, (5, 6))
                self.assertEqual(told[-1][0] == pair(Fraction(5, 6) + little), seen)
                self.assertEqual(function(other, one, (5, 6)), told)

    def test_long_numbers(self):
        one = [(ZERO, (1, LONG)), ((1, LONG), (LONG, LONG - 1))]
        other = [(ZERO, (1, LONG - 2)), ((1, LONG - 1), (LONG, 1))]
        for function, both in ((treads_behind, the_sum), (treads_beside, the_lesser)):
            for purse in ((1, LONG), (1, LONG - 1), (1, 1), pair(Fraction(1, LONG) + Fraction(1, LONG - 1))):
                self.assertEqual(function(one, other, purse), by_all_partings(one, other, purse, both))

    def test_on_small_webs(self):
        chance = random.Random(151)
        seen = {"behind": 0, "beside": 0, "none": 0, "many": 0}
        while min(seen.values()) < 60:
            one = called(some_web(chance, 4, 5), "abcd")
            other = called(some_web(chance, 4, 5), "wxyz")
            purse = some_ratio(chance)
            if max(most_at_a_time(web, purse) for web in (one, other)) > 3:
                continue
            self.hold(one, other, purse, seen)

    def hold(self, one, other, purse, seen):
        treads = [treads_of(web, purse) for web in (one, other)]
        ahead = deep(treads)
        for word, tell, join, both in (("behind", treads_behind, webs_behind, the_sum),
                                       ("beside", treads_beside, webs_beside, the_lesser)):
            told = tell(treads[0], treads[1], purse)
            self.assertEqual(told, by_all_partings(treads[0], treads[1], purse, both))
            self.assertEqual(tell(treads[1], treads[0], purse), told)
            self.assertEqual(treads, ahead)
            web = join(one, other)
            if most_at_a_time(web, purse) <= 3:
                self.assertEqual(treads_of(web, purse), told)
                seen[word] += 1
                seen["none"] += 1 if told[-1][1] is None else 0
                seen["many"] += 1 if len(told) > 2 else 0

    def test_purses_that_are_none(self):
        for purse in WRONG_PURSES + (Prickly(),):
            for function in (treads_behind, treads_beside):
                self.assertEqual(refusal(function, self.ONE, self.OTHER, purse), ("NoPurse",))

    def test_what_is_told_is_the_askers_own(self):
        things = (deep(self.ONE), deep(self.OTHER))
        for function in (treads_behind, treads_beside):
            told = function(things[0], things[1], (3, 1))
            self.assertTrue(is_askers_own(told, things))
            told.clear()
        self.assertEqual(things, (self.ONE, self.OTHER))


if __name__ == "__main__":
    unittest.main()
