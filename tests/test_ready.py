import random
import unittest

from farthestcut.cases import claim_of_cases
from farthestcut.ready import are_enough
from farthestcut.takings import is_within, look_at_taking
from helper import (
    BAD_WEB, WRONG_PURSES, WRONG_WEBS, Prickly, all_takings, all_ways, deep, diamond, full_web, is_askers_own,
    most_at_a_time, odd_things, purses_around, refusal, some_webs, tie, ways_in,
)


def beside(count=5):
    """So many ties from a to b, worths (1, 1)."""
    return (["a", "b"], [tie("a", "b", "one", (k, 1)) for k in range(count)], "a", "b")


class Checked(unittest.TestCase):
    def check(self, web, purse, ways):
        """What is told, held against all takings within the purse."""
        ahead = deep((web, purse, ways))
        told = are_enough(web, purse, ways)
        self.assertIs(told.__class__, tuple)
        self.assertEqual(len(told), 2)
        hit = [taking for taking in all_takings(web, purse) if all(set(way).intersection(taking) for way in ways)]
        self.assertEqual(told[0], "hit" if hit else "enough")
        if hit:
            self.assertIsNone(look_at_taking(web, told[1]))
            self.assertIn(told[1], hit)
            self.assertIs(is_within(web, told[1], purse), True)
        else:
            claim_of_cases(web, purse, told[1])
            for way in ways_in(told[1]):
                self.assertIn(way, ways)
        self.assertTrue(is_askers_own(told, (web, purse, ways)))
        self.assertEqual((web, purse, ways), ahead)
        self.assertEqual(are_enough(web, purse, ways), told)
        return told[0]


class TestTold(Checked):
    def test_enough(self):
        self.assertEqual(are_enough(diamond(), (0, 1), [[0, 1]]), ("enough", ("way", [0, 1], [])))
        told = are_enough(diamond(), (1, 2), [[0, 1], [2, 3]])
        self.assertEqual(told[0], "enough")
        self.assertEqual(claim_of_cases(diamond(), (1, 2), told[1]), (4, 1))

    def test_hit(self):
        self.assertEqual(are_enough(diamond(), (1, 2), [[0, 1]]), ("hit", [1]))
        self.assertEqual(are_enough(diamond(), (1, 3), [[0, 4, 3], [2, 4, 1]]), ("hit", [4]))
        self.assertEqual(self.check(diamond(), (3, 1), [[0, 1], [2, 3]]), "hit")

    def test_a_hit_is_told_rising(self):
        web = beside(4)
        self.assertEqual(are_enough(web, (3, 1), [[3], [1], [0]]), ("hit", [0, 1, 3]))
        self.assertEqual(are_enough(web, (2, 1), [[2], [1]]), ("hit", [1, 2]))

    def test_no_ways(self):
        for web in (diamond(), beside(), (["a", "b"], [], "a", "b")):
            for purse in ((0, 1), (1, 1)):
                self.assertEqual(self.check(web, purse, []), "hit")

    def test_the_same_way_twice(self):
        web = beside()
        self.assertEqual(self.check(web, (1, 1), [[0], [0]]), "hit")
        self.assertEqual(self.check(web, (1, 1), [[0], [0], [1], [1]]), "enough")
        self.assertEqual(self.check(web, (2, 1), [[0], [0], [1], [1]]), "hit")
        same = [0]
        self.assertEqual(self.check(web, (0, 1), [same, same]), "enough")

    def test_a_lesser_and_a_greater_purse(self):
        web = beside()
        for many in range(4):
            ways = [[k] for k in range(many)]
            for purse in range(4):
                self.assertEqual(self.check(web, (purse, 1), ways), "enough" if purse < many else "hit")

    def test_watched_ties(self):
        watched = [tie("a", "b", "one", (1, 1), None), tie("b", "c", "both", (1, 1), None)]
        web = (["a", "b", "c"], watched + [tie("a", "c")], "a", "c")
        self.assertEqual(are_enough(web, (9, 1), [[0, 1]]), ("enough", ("way", [0, 1], [])))
        self.assertEqual(are_enough(web, (9, 1), [[2]]), ("hit", [2]))
        self.assertEqual(self.check(web, (9, 1), [[2], [0, 1]]), "enough")

    def test_on_small_webs(self):
        chance = random.Random(21)
        seen = {"enough": 0, "hit": 0}
        for web in some_webs(21, 120):
            ways = all_ways(web)
            for purse in purses_around(chance, web):
                if most_at_a_time(web, purse) > 3:
                    continue
                for many in (len(ways), len(ways) - 1, chance.randint(0, len(ways))):
                    some = chance.sample(ways, max(many, 0))
                    seen[self.check(web, purse, some)] += 1 if some and purse[0] else 0
        self.assertGreater(seen["enough"], 60)
        self.assertGreater(seen["hit"], 60)

    def test_on_a_web_of_full_size(self):
        for seed in (1, 2):
            web = full_web(seed)
            ways = all_ways(web)
            for purse in ((1, 1), (2, 1), (3, 1)):
                self.check(web, purse, ways)
                self.check(web, purse, ways[::3])

    def test_what_is_told_changes_nothing(self):
        web, ways = beside(), [[0], [1], [2]]
        told = are_enough(web, (2, 1), ways)
        picture = deep(told)
        told[1][1].append(9)
        told[1][2].clear()
        self.assertEqual((web, ways), (beside(), [[0], [1], [2]]))
        told = are_enough(web, (2, 1), ways)
        self.assertEqual(told, picture)
        ways[0].append(9)
        ways.clear()
        web[1].clear()
        self.assertEqual(told, picture)


class TestRefused(unittest.TestCase):
    def test_no_way(self):
        for wrong in odd_things() + [[], [0], [1], [0, 1, 3], (0, 1), [2, 4], [0, 0, 1], Prickly()]:
            for ways, number in (([wrong], 0), ([[0, 1], wrong], 1), ([[0, 1], [0, 1], [2, 3], wrong, None], 3)):
                self.assertEqual(refusal(are_enough, diamond(), (1, 2), ways), ("NoWay", number))

    def test_no_list(self):
        for wrong in (None, (), ([0, 1],), {}, {0: [0, 1]}, 0, True, "", "01", {0}, object(), Prickly()):
            self.assertEqual(refusal(are_enough, diamond(), (1, 2), wrong), ("NoWay", None))

    def test_more_than_three_at_once(self):
        web = beside()
        for ways in ([], [[0]], [[k] for k in range(5)]):
            self.assertIsNone(refusal(are_enough, web, (7, 2), ways))
            for purse in ((4, 1), (9, 2), (99, 1)):
                self.assertEqual(refusal(are_enough, web, purse, ways), ("TooMany",))
        watched = (["a", "b"], beside()[1] + [tie("a", "b", "one", (1, 1), None)], "a", "b")
        self.assertEqual(refusal(are_enough, watched, (4, 1), [[5]]), ("TooMany",))
        self.assertEqual(refusal(are_enough, (["a", "b"], [tie("b", "a")] * 4, "a", "b"), (4, 1), []), ("TooMany",))

    def test_too_many_behind_all_else(self):
        web = beside()
        self.assertEqual(refusal(are_enough, web, (4, 1), [[0], [9]]), ("NoWay", 1))
        self.assertEqual(refusal(are_enough, web, (4, 1), None), ("NoWay", None))

    def test_order_of_refusals(self):
        for web in WRONG_WEBS:
            self.assertEqual(refusal(are_enough, web, None, None), BAD_WEB)
            self.assertEqual(refusal(are_enough, web, (0, 1), [[0, 1]]), BAD_WEB)
        for purse in WRONG_PURSES + (Prickly(),):
            self.assertEqual(refusal(are_enough, diamond(), purse, None), ("NoPurse",))
            self.assertEqual(refusal(are_enough, diamond(), purse, [[0, 1]]), ("NoPurse",))


if __name__ == "__main__":
    unittest.main()
