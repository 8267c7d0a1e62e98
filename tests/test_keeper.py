import random
import unittest
from fractions import Fraction

from farthestcut.best import best_taking
from farthestcut.cases import claim_of_cases
from farthestcut.changes import carried_cases, carried_taking, carried_way
from farthestcut.keeper import Keeper, with_least_way
from farthestcut.prices import lets_prices
from farthestcut.stays import what_stays
from farthestcut.takings import is_within
from farthestcut.ways import length_of, look_at_way
from helper import (
    BAD_WEB, WRONG_PURSES, WRONG_WEBS, Prickly, all_sides, deep, diamond, greatest, is_askers_own, leads_out, lengths_left,
    most_at_a_time, pair, refusal, some_change, some_ratio, some_webs, tie, with_change,
)

LONG = 10 ** 60 - 1
ZERO = (0, 1)


def beside(*lengths):
    return (["a", "b"], [tie("a", "b", "one", (length, 1)) for length in lengths], "a", "b")


def standing(keeper):
    return (keeper.web(), keeper.purse(), keeper.plan(), keeper.told())


class KeeperCase(unittest.TestCase):
    def check_plan(self, keeper, web, purse):
        """The keeper's plan is as good as the best of all takings."""
        self.assertEqual((keeper.web(), keeper.purse()), (web, purse))
        plan = keeper.plan()
        length = pair(greatest(list(lengths_left(web, purse).values())))
        self.assertIs(is_within(web, plan[1], purse), True)
        if length is None:
            self.assertEqual((plan[0], len(plan)), ("cut", 3))
            self.assertIn(plan[2], all_sides(web))
            self.assertFalse(any(leads_out(one, plan[2]) for number, one in enumerate(web[1]) if number not in plan[1]))
        else:
            self.assertEqual((plan[0], len(plan)), ("left", 5))
            self.assertIsNone(look_at_way(web, plan[1], plan[2]))
            self.assertEqual(length_of(web, plan[2]), length)
            self.assertIs(lets_prices(web, plan[1], plan[3]), True)
            self.assertEqual(plan[3][web[3]], length)
            self.assertEqual(claim_of_cases(web, purse, plan[4]), length)
        self.assertTrue(is_askers_own(plan, (web,)))


class TestDeeds(KeeperCase):
    def test_at_first(self):
        keeper = Keeper(diamond(), (1, 2))
        self.assertEqual(standing(keeper), (diamond(), (1, 2), best_taking(diamond(), (1, 2)), 1))
        self.check_plan(keeper, diamond(), (1, 2))
        self.assertEqual(refusal(keeper.undo), ("NoDeed",))

    def test_a_change_over_which_the_plan_stays(self):
        keeper = Keeper(beside(1, 2, 5), (1, 1))
        ahead = keeper.plan()
        self.assertIs(keeper.change(("length", 2, (9, 1))), True)
        self.assertEqual(standing(keeper), (beside(1, 2, 9), (1, 1), ahead, 1))

    def test_changes_over_which_it_does_not(self):
        keeper = Keeper(beside(1, 2, 5), (1, 1))
        self.assertIs(keeper.change(("length", 0, (9, 1))), False)
        self.assertEqual(keeper.told(), 2)
        self.assertEqual(keeper.plan(), best_taking(beside(9, 2, 5), (1, 1)))
        self.assertIs(keeper.change(("gone", keeper.plan()[1][0])), False)
        self.assertEqual(keeper.told(), 3)
        self.check_plan(keeper, beside(9, 5), (1, 1))

    def test_numbers_are_carried(self):
        web = (["a", "b"], [tie("b", "a")] + beside(1, 2, 5)[1], "a", "b")
        keeper = Keeper(web, (1, 1))
        ahead = keeper.plan()
        self.assertIs(keeper.change(("gone", 0)), True)
        change = ("gone", 0)
        self.assertEqual(keeper.plan(), ("left", carried_taking(web, change, ahead[1]),
                                         carried_way(web, change, ahead[2]), ahead[3],
                                         carried_cases(web, change, ahead[4])))
        self.assertEqual(keeper.plan()[1:3], ([0], [1]))
        self.check_plan(keeper, beside(1, 2, 5), (1, 1))

    def test_a_cut_plan(self):
        keeper = Keeper(beside(1, 2), (2, 1))
        self.assertEqual(keeper.plan(), ("cut", [0, 1], ["a"]))
        self.assertIs(keeper.change(("tie", tie("b", "a"))), True)
        self.assertIs(keeper.change(("worth", 0, (1, 2))), True)
        self.assertEqual((keeper.plan(), keeper.told()), (("cut", [0, 1], ["a"]), 1))
        self.assertIs(keeper.change(("tie", tie("a", "b", "both", (7, 1)))), False)
        self.assertEqual((keeper.plan()[0], keeper.told()), ("left", 2))

    def test_a_cut_plan_with_numbers_carried(self):
        web = (["a", "b"], [tie("b", "a")] + beside(1, 2)[1], "a", "b")
        keeper = Keeper(web, (2, 1))
        self.assertEqual(keeper.plan(), ("cut", [1, 2], ["a"]))
        self.assertIs(keeper.change(("gone", 0)), True)
        self.assertEqual(keeper.plan(), ("cut", [0, 1], ["a"]))

    def test_purses(self):
        keeper = Keeper(beside(1, 2, 5), (1, 1))
        ahead = keeper.plan()
        self.assertIs(keeper.put_purse((1, 1)), True)
        self.assertIs(keeper.put_purse((3, 2)), True)
        self.assertEqual(standing(keeper), (beside(1, 2, 5), (3, 2), ahead, 1))
        self.assertIs(keeper.put_purse((2, 1)), False)
        self.assertEqual((keeper.plan(), keeper.told()), (best_taking(beside(1, 2, 5), (2, 1)), 2))
        self.assertIs(keeper.put_purse((1, 1)), False)
        self.assertEqual((keeper.plan(), keeper.told()), (ahead, 3))
        self.assertIs(keeper.put_purse(pair(1 - Fraction(1, LONG))), False)
        self.assertEqual(keeper.plan()[1:3], ([], [0]))
        self.assertIs(keeper.put_purse((3, 1)), False)
        self.assertEqual(keeper.plan()[0], "cut")
        self.assertIs(keeper.put_purse((7, 2)), True)
        self.assertEqual((keeper.plan()[0], keeper.told()), ("cut", 5))

    def test_the_way_is_carried_or_another_least_one(self):
        chance = random.Random(184)
        seen = {True: 0, False: 0}
        for web in some_webs(184, 400, 4, 7):
            if most_at_a_time(web, (1, 1)) > 3:
                continue
            plan = best_taking(web, (1, 1))
            changes = [some_change(chance, web, plan) for k in range(3)]
            if plan[0] == "left":
                changes += [(word, number) + rest for number in plan[2]
                            for word, rest in (("gone", ()), ("length", ((99, 1),)), ("length", (ZERO,)))]
            for change in changes:
                self.hold_way(web, plan, change, seen)
        self.assertGreater(min(seen.values()), 50, seen)

    def hold_way(self, web, plan, change, seen):
        there = with_change(web, change)
        if most_at_a_time(there, (1, 1)) > 3:
            return
        keeper = Keeper(web, (1, 1))
        stays = keeper.change(change)
        seen[stays] += 1
        self.assertIs(stays, what_stays(web, (1, 1), plan, change) == (True, True))
        self.check_plan(keeper, there, (1, 1))
        if stays and plan[0] == "left":
            way = carried_way(web, change, plan[2])
            if way is not None and length_of(there, way) == plan[3][web[3]]:
                self.assertEqual(keeper.plan()[2], way)

    def test_a_plan_whose_way_is_gone_or_longer(self):
        web, cases = beside(1, 1, 5), ("way", [0], [])
        for way, told in (([0], [0]), ([1], [1]), (None, [0]), ([2], [0])):
            plan = ("left", [], way, {"a": ZERO, "b": (1, 1)}, cases)
            self.assertEqual(with_least_way(web, plan), ("left", [], told, plan[3], cases))
        plan = ("left", [0], None, {"a": ZERO, "b": (1, 1)}, cases)
        self.assertEqual(with_least_way(web, plan)[2], [1])
        self.assertEqual(with_least_way(web, ("cut", [0], ["a"])), ("cut", [0], ["a"]))

    def test_undo_of_one_deed(self):
        keeper = Keeper(beside(1, 2, 5), (1, 1))
        ahead = standing(keeper)
        for deed in (lambda: keeper.change(("length", 0, (9, 1))), lambda: keeper.change(("gone", 2)),
                     lambda: keeper.put_purse((2, 1)), lambda: keeper.put_purse((1, 1))):
            deed()
            self.assertIsNone(keeper.undo())
            self.assertEqual(standing(keeper), ahead)
            self.assertEqual(refusal(keeper.undo), ("NoDeed",))

    def test_deeds_one_behind_the_other_on_small_webs(self):
        chance = random.Random(181)
        seen = {True: 0, False: 0}
        for web in some_webs(181, 40):
            purse = some_ratio(chance)
            if most_at_a_time(web, purse) > 3:
                self.assertEqual(refusal(Keeper, web, purse), ("TooMany",))
                continue
            self.go_through(chance, Keeper(web, purse), web, purse, seen)
        self.assertGreater(min(seen.values()), 40, seen)

    def go_through(self, chance, keeper, web, purse, seen):
        stack = []
        for k in range(14):
            now = standing(keeper)
            self.check_plan(keeper, web, purse)
            if stack and chance.random() < 0.2:
                keeper.undo()
                self.assertEqual(standing(keeper), stack.pop())
                web, purse = keeper.web(), keeper.purse()
                continue
            there, other, told = self.some_deed(chance, keeper, now, web, purse)
            if told is None:
                self.assertEqual(standing(keeper), now)
                continue
            seen[told] += 1
            self.assertEqual(keeper.told(), now[3] if told else now[3] + 1)
            stack.append(now)
            web, purse = there, other
        while stack:
            self.assertIsNone(keeper.undo())
            self.assertEqual(standing(keeper), stack.pop())
        self.assertEqual(refusal(keeper.undo), ("NoDeed",))

    def some_deed(self, chance, keeper, now, web, purse):
        """Web and purse behind a deed, and what the keeper told, None where it refused."""
        if chance.random() < 0.4:
            other = chance.choice((purse, some_ratio(chance)))
            there, deed, thing = web, keeper.put_purse, other
            right = what_stays(web, other, now[2], ("length", 0, web[1][0][3])) if web[1] else None
        else:
            change = some_change(chance, web, now[2])
            there, other, deed, thing = with_change(web, change), purse, keeper.change, change
            right = what_stays(web, purse, now[2], change)
        if most_at_a_time(there, other) > 3:
            self.assertEqual(refusal(deed, thing), ("TooMany",))
            return there, other, None
        told = deed(thing)
        self.assertIs(told.__class__, bool)
        self.assertTrue(right is None or told == all(right))
        return there, other, told


class TestRefusals(KeeperCase):
    def test_made_of_none(self):
        for web in WRONG_WEBS:
            self.assertEqual(refusal(Keeper, web, None), BAD_WEB)
            self.assertEqual(refusal(Keeper, web, (1, 1)), BAD_WEB)
        for purse in WRONG_PURSES + (Prickly(),):
            self.assertEqual(refusal(Keeper, diamond(), purse), ("NoPurse",))
            self.assertEqual(refusal(Keeper, beside(1, 2, 3, 4), purse), ("NoPurse",))
        self.assertEqual(refusal(Keeper, beside(1, 2, 3, 4), (4, 1)), ("TooMany",))
        self.assertIsNone(refusal(Keeper, beside(1, 2, 3, 4), (3, 1)))

    def test_what_is_refused_leaves_all_as_it_was(self):
        keeper = Keeper(beside(1, 2, 3, 4), (3, 1))
        keeper.put_purse((2, 1))
        ahead = standing(keeper)
        for change in (None, (), ("gone", 4), ("gone", True), ("length", 0, None), ("tie", tie("a", "c")), ["gone", 0],
                       ("worth", 0, ZERO), Prickly()):
            self.assertEqual(refusal(keeper.change, change), ("NoChange",))
        for purse in WRONG_PURSES + (Prickly(),):
            self.assertEqual(refusal(keeper.put_purse, purse), ("NoPurse",))
        self.assertEqual(refusal(keeper.put_purse, (4, 1)), ("TooMany",))
        self.assertEqual(standing(keeper), ahead)
        keeper.undo()
        self.assertEqual((keeper.purse(), keeper.told()), ((3, 1), 1))
        ahead = standing(keeper)
        self.assertEqual(refusal(keeper.change, ("worth", 0, (1, LONG))), None)
        self.assertEqual(refusal(keeper.change, ("worth", 1, pair(1 - Fraction(1, LONG)))), ("TooMany",))
        self.assertEqual(refusal(keeper.change, ("tie", tie("b", "a", "one", ZERO, (1, LONG)))), ("TooMany",))
        self.assertEqual(refusal(keeper.change, ("gone", 9)), ("NoChange",))
        keeper.undo()
        self.assertEqual(standing(keeper), ahead)
        self.assertEqual(refusal(keeper.undo), ("NoDeed",))

    def test_too_many_also_where_the_plan_would_stay(self):
        web = (["a", "b"], beside(1)[1] + [tie("b", "a")] * 3, "a", "b")
        keeper = Keeper(web, (3, 1))
        self.assertEqual(keeper.plan()[0], "cut")
        self.assertEqual(refusal(keeper.put_purse, (4, 1)), ("TooMany",))
        self.assertEqual(refusal(keeper.change, ("worth", 3, (1, LONG))), None)
        self.assertEqual(refusal(keeper.change, ("worth", 2, (1, LONG))), ("TooMany",))

    def test_told_webs_and_plans_are_the_askers_own(self):
        for purse, word in (((1, 2), "left"), ((3, 1), "cut")):
            web = diamond()
            keeper = Keeper(web, purse)
            self.assertEqual(keeper.plan()[0], word)
            ahead = standing(keeper)
            self.assertTrue(is_askers_own(standing(keeper), (web,)))
            self.assertTrue(is_askers_own(standing(keeper), standing(keeper)))
            web[0].clear()
            web[1].clear()
            told = standing(keeper)
            told[0][0].clear()
            told[0][1].clear()
            for one in told[2][1:4]:
                one.clear()
            if told[2][0] == "left":
                told[2][4][1].clear()
                told[2][4][2].clear()
            self.assertEqual(standing(keeper), ahead)
            keeper.put_purse(purse)
            for one in keeper.plan()[1:4]:
                one.clear()
            keeper.undo()
            self.assertEqual(standing(keeper), ahead)

    def test_two_keepers_share_nothing(self):
        one, other = Keeper(diamond(), (1, 2)), Keeper(diamond(), (1, 2))
        ahead = standing(other)
        one.change(("gone", 0))
        one.put_purse(ZERO)
        self.assertEqual(standing(other), ahead)
        self.assertEqual(refusal(other.undo), ("NoDeed",))


if __name__ == "__main__":
    unittest.main()
