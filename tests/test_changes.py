import random
import unittest

from farthestcut.best import best_taking
from farthestcut.changes import carried_cases, carried_taking, carried_way, changed
from farthestcut.webs import look_at_web
from helper import (
    BAD_WEB, WRONG_TAKINGS, WRONG_WEBS, Prickly, all_takings, all_ways, deep, diamond, is_askers_own, most_at_a_time,
    odd_things, refusal, some_change, some_ratio, some_webs, tie, with_change,
)

LONG = 10 ** 60 - 1
ZERO = (0, 1)
CASES = ("way", [0, 1], [(0, ("way", [2, 3], [])), (1, ("way", [0, 4, 3], [(4, ("way", [2, 3], []))]))])


def wrong_changes():
    """Things that are no change of the diamond."""
    told = odd_things()
    for wrong in (None, True, "1", 1, (2, 4), (1, 0), (0, 2), (-1, 1), (-1, LONG), [1, 1], (1,), (True, 1), Prickly()):
        told += [("length", 0, wrong), ("worth", 0, wrong)]
    told += [("length", 0, None), ("worth", 0, ZERO), ("tie", None), ("tie", 0), ("gone", None), ("gone", (0,))]
    told = [one for one in told if not (isinstance(one, tuple) and one[:2] == ("worth", 0) and one[2] is None)]
    for number in (5, -1, 99, True, False, None, "0", (0,), [0], Prickly()):
        told += [("length", number, (1, 1)), ("worth", number, (1, 1)), ("gone", number)]
    for other in (tie("a", "e"), tie("e", "a"), tie("a", "a"), tie("a", "b", "none"), tie("a", "b", None),
                  tie("a", "b", "one", (-1, 1)), tie("a", "b", "one", None), tie("a", "b", "one", (1, 1), ZERO),
                  tie("a", "b", "one", (1, 1), (2, 2)), tie("a", "b")[:4], tie("a", "b") + (None,), list(tie("a", "b")),
                  ("A", "b", "one", ZERO, None), Prickly()):
        told.append(("tie", other))
    told += [("length", 0), ("length", 0, (1, 1), None), ("worth", 0), ("worth", 0, None, None), ("tie",), ("gone",),
             ("tie", tie("a", "b"), None), ("gone", 0, None), ("length",), ["length", 0, (1, 1)], ["gone", 0],
             ("lengths", 0, (1, 1)), ("", 0), ("Gone", 0), (b"gone", 0), (None, 0), (Prickly(), 0), ("way", 0), "gone"]
    return told


class TestChanged(unittest.TestCase):
    def test_each_kind(self):
        places, ties, first, last = diamond()
        for change, there in (
            (("length", 1, (7, 3)), ties[:1] + [tie("b", "d", "one", (7, 3), (1, 2))] + ties[2:]),
            (("length", 3, ZERO), ties[:3] + [tie("d", "c", "both", ZERO, None)] + ties[4:]),
            (("worth", 4, (LONG, 2)), ties[:4] + [tie("c", "b", "both", (1, 3), (LONG, 2))]),
            (("worth", 0, None), [tie("a", "b", "one", (1, 1), None)] + ties[1:]),
            (("worth", 3, (1, 2)), ties[:3] + [tie("d", "c", "both", (5, 2), (1, 2))] + ties[4:]),
            (("tie", tie("d", "a", "both", (1, 9), None)), ties + [tie("d", "a", "both", (1, 9), None)]),
            (("gone", 0), ties[1:]), (("gone", 2), ties[:2] + ties[3:]), (("gone", 4), ties[:4]),
            (("length", 1, (2, 1)), ties), (("worth", 3, None), ties),
        ):
            self.assertEqual(changed(diamond(), change), (places, there, first, last))

    def test_a_worth_of_none_and_back(self):
        web = changed(diamond(), ("worth", 0, None))
        self.assertIsNone(web[1][0][4])
        self.assertEqual(changed(web, ("worth", 0, (1, 1))), diamond())

    def test_a_fourteenth_and_a_fifteenth_tie(self):
        web = (["a", "b"], [tie("a", "b")] * 13, "a", "b")
        web = changed(web, ("tie", tie("b", "a")))
        self.assertEqual(len(web[1]), 14)
        self.assertEqual(refusal(changed, web, ("tie", tie("b", "a"))), ("NoChange",))
        self.assertEqual(len(changed(web, ("gone", 13))[1]), 13)

    def test_all_ties_go(self):
        web = diamond()
        for many in range(4, -1, -1):
            web = changed(web, ("gone", 0))
            self.assertEqual(len(web[1]), many)
        self.assertEqual(refusal(changed, web, ("gone", 0)), ("NoChange",))
        self.assertEqual(refusal(changed, web, ("length", 0, (1, 1))), ("NoChange",))

    def test_what_is_none(self):
        for change in wrong_changes():
            self.assertEqual(refusal(changed, diamond(), change), ("NoChange",))
            self.assertEqual(refusal(carried_taking, diamond(), change, None), ("NoChange",))
            self.assertEqual(refusal(carried_way, diamond(), change, None), ("NoChange",))
            self.assertEqual(refusal(carried_cases, diamond(), change, CASES), ("NoChange",))

    def test_webs_that_are_none(self):
        for web in WRONG_WEBS:
            self.assertEqual(refusal(changed, web, None), BAD_WEB)
            self.assertEqual(refusal(changed, web, ("gone", 0)), BAD_WEB)
            for function in (carried_taking, carried_way, carried_cases):
                self.assertEqual(refusal(function, web, None, None), BAD_WEB)

    def test_on_small_webs(self):
        chance = random.Random(161)
        for web in some_webs(161, 80):
            for k in range(4):
                change = some_change(chance, web)
                ahead = deep((web, change))
                told = changed(web, change)
                self.assertEqual(told, with_change(web, change))
                self.assertIsNone(look_at_web(told))
                self.assertTrue(is_askers_own(told, (web, change)))
                told[0].clear()
                told[1].clear()
                self.assertEqual((web, change), ahead)
                self.assertEqual(changed(web, change), with_change(web, change))


class TestCarried(unittest.TestCase):
    STAYING = (("length", 0, (9, 1)), ("worth", 1, None), ("worth", 3, (1, 1)), ("tie", tie("a", "d")))

    def test_numbers_stay(self):
        for change in self.STAYING:
            self.assertEqual(carried_taking(diamond(), change, [0, 1, 4]), [0, 1, 4])
            self.assertEqual(carried_taking(diamond(), change, []), [])
            self.assertEqual(carried_way(diamond(), change, [0, 4, 3]), [0, 4, 3])
            self.assertEqual(carried_cases(diamond(), change, CASES), CASES)

    def test_a_tie_is_gone(self):
        for gone, told in ((0, [None, None, None]), (1, [[0, 3], [0, 3, 2], None]), (2, [[0, 3], [0, 3, 2], None]),
                           (3, [[0, 3], None, None]), (4, [None, None, None])):
            change = ("gone", gone)
            self.assertEqual(carried_taking(diamond(), change, [0, 4]), told[0])
            self.assertEqual(carried_way(diamond(), change, [0, 4, 3]), told[1])
            self.assertEqual(carried_cases(diamond(), change, CASES), told[2])
        self.assertEqual(carried_taking(diamond(), ("gone", 0), []), [])
        self.assertEqual(carried_taking(diamond(), ("gone", 2), [0, 1]), [0, 1])

    def test_cases_with_numbers_less_by_one(self):
        places, ties, first, last = diamond()
        web = (places, ties[:1] + [tie("d", "a")] + ties[1:], first, last)
        cases = ("way", [0, 2], [(0, ("way", [3, 4], [])), (2, ("way", [0, 5, 4], [(5, ("way", [3, 4], []))]))])
        self.assertEqual(carried_cases(web, ("gone", 1), cases), CASES)
        for gone in (0, 2, 3, 4, 5):
            self.assertIsNone(carried_cases(web, ("gone", gone), cases))

    def test_on_small_webs(self):
        chance = random.Random(162)
        seen = {True: 0, False: 0}
        for web in some_webs(162, 200):
            change, purse = some_change(chance, web), some_ratio(chance)
            told = with_change(web, change)
            ties = list(range(len(web[1])))
            if change[0] == "gone":
                ties.pop(change[1])
            for taking in all_takings(web, purse)[:8]:
                self.hold(carried_taking(web, change, taking), taking, ties, seen)
            for way in all_ways(web):
                there = carried_way(web, change, way)
                self.hold(there, way, ties, seen)
                self.assertTrue(there is None or there in all_ways(told))
            if most_at_a_time(web, purse) <= 3:
                best = best_taking(web, purse)
                if best[0] == "left":
                    self.hold_cases(web, change, best[4], ties)
        self.assertGreater(min(seen.values()), 40, seen)

    def hold(self, there, numbers, ties, seen):
        seen[there is None] += 1
        right = [ties.index(number) for number in numbers] if set(numbers) <= set(ties) else None
        self.assertEqual(there, right)

    def hold_cases(self, web, change, cases, ties):
        def moved(case):
            return ("way", [ties.index(number) for number in case[1]],
                    [(ties.index(number), moved(inner)) for number, inner in case[2]])

        told = carried_cases(web, change, cases)
        try:
            self.assertEqual(told, moved(cases))
        except ValueError:
            self.assertIsNone(told)

    def test_refusals(self):
        for taking in WRONG_TAKINGS:
            for change in (("gone", 0), ("length", 1, ZERO)):
                self.assertEqual(refusal(carried_taking, diamond(), change, taking), ("NoTaking",))
        for way, at in ((None, None), ((0, 1), None), ([], 0), ([0], 1), ([0, 3], 1), ([0, 1, 3], 2), ([True, 1], 0)):
            for change in (("gone", 0), ("length", 1, ZERO)):
                self.assertEqual(refusal(carried_way, diamond(), change, way), ("NoWay", at))
        self.assertEqual(refusal(carried_taking, diamond(), ("worth", 3, (1, 1)), [3]), ("NoTaking",))
        self.assertEqual(carried_taking(diamond(), ("worth", 0, None), [0]), [0])

    def test_what_is_told_is_the_askers_own(self):
        things = (diamond(), [0, 1], [0, 4, 3], deep(CASES))
        ahead = deep(things)
        for change in self.STAYING:
            for told in (carried_taking(things[0], change, things[1]), carried_way(things[0], change, things[2])):
                self.assertTrue(is_askers_own(told, things))
                told.clear()
            told = carried_cases(things[0], change, things[3])
            self.assertTrue(is_askers_own(told, things))
            told[1].clear()
            told[2].clear()
        self.assertEqual(things, ahead)


if __name__ == "__main__":
    unittest.main()
