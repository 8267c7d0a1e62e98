import random
import unittest
from fractions import Fraction

from farthestcut.best import best_taking
from farthestcut.cases import claim_of_cases
from farthestcut.changes import carried_cases, carried_taking
from farthestcut.prices import least_way, lets_prices
from farthestcut.stays import what_stays
from farthestcut.takings import is_within
from helper import (
    BAD_WEB, WRONG_PURSES, WRONG_WEBS, Prickly, all_sides, deep, diamond, greatest, leads_out, lengths_left, most_at_a_time,
    pair, purses_around, refusal, some_change, some_webs, tie, with_change,
)

LONG = 10 ** 60 - 1
LITTLE = Fraction(1, LONG)
ZERO = (0, 1)


def beside():
    """Three ties from a to b, as long as 1, 2 and 5, worth 1 each, and one back."""
    ties = [tie("a", "b", "one", (1, 1)), tie("a", "b", "one", (2, 1)), tie("a", "b", "one", (5, 1)), tie("b", "a")]
    return (["a", "b"], ties, "a", "b")


def short_way():
    """A way of two ties of no length, and one tie as long as 3."""
    ties = [tie("a", "b"), tie("b", "c", "both"), tie("a", "c", "one", (3, 1), (5, 1))]
    return (list("abc"), ties, "a", "c")


def by_words(web, purse, plan, change):
    """What stays, by the document's words."""
    told = with_change(web, change)
    taking = carried_taking(web, change, plan[1])
    try:
        taken = taking is not None and is_within(told, taking, purse)
    except ValueError:
        taken = False
    if plan[0] == "cut":
        shut = taken and not any(leads_out(one, plan[2]) for number, one in enumerate(told[1]) if number not in taking)
        return (shut, True)
    cases = carried_cases(web, change, plan[4])
    try:
        ready = cases is not None and Fraction(*claim_of_cases(told, purse, cases)) <= Fraction(*plan[3][web[3]])
    except ValueError:
        ready = False
    return (taken and lets_prices(told, taking, plan[3]), ready)


class TestLeft(unittest.TestCase):
    def stays(self, change, purse=(1, 1), web=None):
        web = beside() if web is None else web
        plan = best_taking(web, purse)
        self.assertEqual(plan[0], "left")
        return what_stays(web, purse, plan, change)

    def test_what_is_taken(self):
        self.assertEqual(best_taking(beside(), (1, 1))[1:3], ([0], [1]))
        for change, told in (
            (("length", 0, (9, 1)), (True, False)), (("length", 0, ZERO), (True, True)),
            (("length", 0, (2, 1)), (True, True)), (("length", 0, pair(2 + LITTLE)), (True, False)),
            (("worth", 0, (1, 2)), (True, True)), (("worth", 0, pair(1 + LITTLE)), (False, False)),
            (("worth", 0, None), (False, False)), (("gone", 0), (False, False)),
        ):
            self.assertEqual(self.stays(change), told, change)

    def test_the_way(self):
        for change, told in (
            (("length", 1, pair(2 - LITTLE)), (False, True)), (("length", 1, pair(2 + LITTLE)), (True, False)),
            (("length", 1, (2, 1)), (True, True)), (("worth", 1, None), (True, True)),
            (("worth", 1, (1, LONG)), (True, True)), (("worth", 1, (7, 1)), (True, True)), (("gone", 1), (True, False)),
        ):
            self.assertEqual(self.stays(change), told, change)
        more = pair(1 + LITTLE)
        self.assertEqual(self.stays(("worth", 1, (1, LONG - 1)), more), (True, True))
        self.assertEqual(self.stays(("worth", 1, (1, LONG)), more), (True, False))

    def test_what_is_neither(self):
        for change, told in (
            (("length", 2, (2, 1)), (True, True)), (("length", 2, pair(2 - LITTLE)), (False, True)),
            (("length", 2, (LONG, 1)), (True, True)), (("worth", 2, (1, LONG)), (True, True)),
            (("gone", 2), (True, True)), (("gone", 3), (True, True)), (("length", 3, ZERO), (True, True)),
            (("tie", tie("a", "b", "one", (2, 1))), (True, True)), (("tie", tie("b", "a", "one", ZERO)), (True, True)),
            (("tie", tie("b", "a", "both", (1, 1))), (False, True)),
            (("tie", tie("a", "b", "one", pair(2 - LITTLE), None)), (False, True)),
        ):
            self.assertEqual(self.stays(change), told, change)

    def test_numbers_move(self):
        web = (["a", "b"], [tie("b", "a")] + beside()[1], "a", "b")
        self.assertEqual(best_taking(web, (1, 1))[1], [1])
        self.assertEqual(self.stays(("gone", 0), (1, 1), web), (True, True))
        self.assertEqual(self.stays(("gone", 1), (1, 1), web), (False, False))

    def test_with_nothing_taken(self):
        for change, told in (
            (("length", 0, (2, 1)), (True, False)), (("length", 0, (1, 2)), (False, True)),
            (("length", 2, (2, 1)), (True, True)), (("length", 2, pair(2 - LITTLE)), (False, True)),
            (("gone", 1), (True, False)), (("gone", 2), (True, True)), (("worth", 0, (1, LONG)), (True, True)),
        ):
            self.assertEqual(self.stays(change, ZERO, short_way()), told, change)

    def test_a_purse_that_many_can_be_taken_with(self):
        plan = best_taking(short_way(), ZERO)
        self.assertEqual(what_stays(short_way(), (99, 1), plan, ("gone", 2)), (True, False))


class TestCut(unittest.TestCase):
    def test_of_beside(self):
        plan = best_taking(beside(), (3, 1))
        self.assertEqual(plan, ("cut", [0, 1, 2], ["a"]))
        for change, told in (
            (("length", 0, (99, 1)), True), (("worth", 0, (1, 1)), True), (("worth", 0, (1, LONG)), True),
            (("worth", 0, pair(1 + LITTLE)), False), (("worth", 0, None), False), (("gone", 0), False),
            (("gone", 3), True), (("worth", 3, None), True), (("length", 3, ZERO), True),
            (("tie", tie("b", "a", "one")), True), (("tie", tie("b", "a", "both")), False),
            (("tie", tie("a", "b")), False),
        ):
            self.assertEqual(what_stays(beside(), (3, 1), plan, change), (told, True), change)

    def test_without_a_way(self):
        web = (list("abc"), [tie("a", "b"), tie("c", "b")], "a", "c")
        plan = best_taking(web, ZERO)
        self.assertEqual(plan, ("cut", [], ["a", "b"]))
        for change, told in ((("tie", tie("b", "c")), False), (("tie", tie("c", "b", "both")), False),
                             (("tie", tie("b", "a", "both")), True), (("gone", 0), True), (("worth", 0, None), True)):
            self.assertEqual(what_stays(web, ZERO, plan, change), (told, True))


class TestPromise(unittest.TestCase):
    def test_on_small_webs(self):
        chance = random.Random(171)
        seen = {}
        for web in some_webs(171, 150):
            for purse in purses_around(chance, web):
                if most_at_a_time(web, purse) <= 3:
                    plan = best_taking(web, purse)
                    for k in range(4):
                        told = self.check(web, purse, plan, some_change(chance, web, plan))
                        seen[(plan[0],) + told] = seen.get((plan[0],) + told, 0) + 1
        self.assertEqual(len(seen), 6, seen)
        self.assertGreater(min(seen.values()), 10, seen)

    def check(self, web, purse, plan, change):
        things = (web, purse, plan, change)
        ahead = deep(things)
        told = what_stays(*things)
        self.assertEqual(things, ahead)
        self.assertEqual(what_stays(*things), told)
        self.assertEqual(told, by_words(*things))
        self.assertEqual([one.__class__ for one in told], [bool, bool])
        there = with_change(web, change)
        if told == (True, True) and most_at_a_time(there, purse) <= 3:
            taking = carried_taking(web, change, plan[1])
            length = None if plan[0] == "cut" else plan[3][web[3]]
            self.assertEqual(least_way(there, taking)[1], length)
            self.assertEqual(pair(greatest(list(lengths_left(there, purse).values()))), length)
            best = best_taking(there, purse)
            self.assertEqual(None if best[0] == "cut" else best[3][web[3]], length)
        return told

    def test_order_of_refusals(self):
        plan = best_taking(diamond(), (1, 2))
        for web in WRONG_WEBS:
            self.assertEqual(refusal(what_stays, web, None, None, None), BAD_WEB)
            self.assertEqual(refusal(what_stays, web, (1, 2), plan, ("gone", 0)), BAD_WEB)
        for purse in WRONG_PURSES + (Prickly(),):
            self.assertEqual(refusal(what_stays, diamond(), purse, plan, None), ("NoPurse",))
            self.assertEqual(refusal(what_stays, diamond(), purse, plan, ("gone", 0)), ("NoPurse",))
        for change in (None, (), ("gone", 5), ("gone", True), ["gone", 0], ("tie", None), ("length", 0, None), Prickly()):
            self.assertEqual(refusal(what_stays, diamond(), (1, 2), plan, change), ("NoChange",))

    def test_sides_stay_sides(self):
        plan = best_taking(beside(), (3, 1))
        self.assertIn(plan[2], all_sides(beside()))


if __name__ == "__main__":
    unittest.main()
