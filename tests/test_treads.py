import random
import unittest
from fractions import Fraction

from farthestcut.best import best_taking
from farthestcut.treads import length_by, treads_of
from helper import (
    BAD_WEB, WRONG_PURSES, WRONG_WEBS, Prickly, deep, diamond, full_web, greatest, is_askers_own, lengths_left,
    most_at_a_time, pair, purses_around, refusal, some_webs, tie, worth,
)

LONG = 10 ** 60 - 1


def best_length(web, purse):
    return pair(greatest(list(lengths_left(web, purse).values())))


def treads_by_all_takings(web, purse):
    """For each worth that a taking within the purse has, the best length; those kept where it is another one."""
    lengths = lengths_left(web, purse)
    told = []
    for at in sorted({worth(web, taking) for taking in lengths}):
        best = greatest([lengths[taking] for taking in lengths if worth(web, taking) <= at])
        if not told or told[-1][1] != pair(best):
            told.append((pair(at), pair(best)))
    return told


class TestTold(unittest.TestCase):
    def check(self, web, purse):
        ahead = deep((web, purse))
        told = treads_of(web, purse)
        self.assertEqual(told, treads_by_all_takings(web, purse))
        self.assertIs(told.__class__, list)
        self.assertTrue(all(one.__class__ is tuple and len(one) == 2 for one in told))
        self.assertTrue(is_askers_own(told, (web, purse)))
        self.assertEqual((web, purse), ahead)
        self.assertEqual(treads_of(web, purse), told)
        return told

    def test_of_the_diamond(self):
        self.assertEqual(treads_of(diamond(), (0, 1)), [((0, 1), (3, 1))])
        self.assertEqual(treads_of(diamond(), (5, 6)), [((0, 1), (3, 1)), ((1, 2), (23, 6)), ((5, 6), (4, 1))])
        self.assertEqual(treads_of(diamond(), (7, 3))[-1], ((5, 6), (4, 1)))
        self.assertEqual(treads_of(diamond(), (5, 2))[-1], ((5, 6), (4, 1)))
        self.assertEqual(treads_of(diamond(), (3, 1))[-1], ((17, 6), None))

    def test_without_a_way(self):
        for web in ((["a", "b"], [], "a", "b"), (["a", "b"], [tie("b", "a")] * 3, "a", "b")):
            for purse in ((0, 1), (1, 1), (3, 1)):
                self.assertEqual(treads_of(web, purse), [((0, 1), None)])

    def test_nothing_behind_none(self):
        web = (["a", "b"], [tie("a", "b", "one", (1, 1), (1, 3)), tie("a", "b", "one", (2, 1), (1, 2)),
                            tie("b", "a", "one", (2, 1), (1, 1))], "a", "b")
        self.assertEqual(self.check(web, (99, 1)), [((0, 1), (1, 1)), ((1, 3), (2, 1)), ((5, 6), None)])

    def test_worths_alike_of_unlike_takings(self):
        ties = [tie("a", "b", "one", (1, 1), (1, 1)), tie("a", "b", "one", (2, 1), (1, 2)),
                tie("a", "b", "one", (3, 1), (1, 2)), tie("a", "b", "one", (9, 1), None)]
        self.assertEqual(self.check((["a", "b"], ties, "a", "b"), (3, 1)),
                         [((0, 1), (1, 1)), ((1, 1), (2, 1)), ((3, 2), (3, 1)), ((2, 1), (9, 1))])
        turned = ties[::-1]
        self.check((["a", "b"], turned, "a", "b"), (3, 1))
        rows = [tie("a", "b", "one", (1, 1), (1, 1)), tie("b", "c", "one", (1, 1), (1, 1)),
                tie("a", "b", "one", (4, 1), None), tie("b", "c", "one", (3, 1), None)]
        for ties in (rows, [rows[1], rows[0]] + rows[2:]):
            self.assertEqual(self.check((["a", "b", "c"], ties, "a", "c"), (2, 1)),
                             [((0, 1), (2, 1)), ((1, 1), (5, 1)), ((2, 1), (7, 1))])

    def test_no_tread_where_nothing_is_longer(self):
        web = (["a", "b"], [tie("a", "b", "one", (1, 1), (1, 2)), tie("a", "b", "both", (1, 1), None)], "a", "b")
        self.assertEqual(self.check(web, (5, 1)), [((0, 1), (1, 1))])

    def test_purses_just_at_and_a_little_less(self):
        web = (["a", "b"], [tie("a", "b", "one", (1, 1), (1, 3)), tie("a", "b", "one", (2, 1), None)], "a", "b")
        little = Fraction(1, LONG)
        self.assertEqual(len(treads_of(web, (1, 3))), 2)
        self.assertEqual(len(treads_of(web, pair(Fraction(1, 3) - little))), 1)

    def test_long_numbers(self):
        web = (["a", "b"], [tie("a", "b", "one", (LONG, LONG - 1), (1, LONG)), tie("a", "b", "one", (LONG, 2), None),
                            tie("a", "b", "both", (LONG - 2, 7), (LONG, 2 ** 99))], "a", "b")
        self.check(web, (LONG, 1))

    def test_on_small_webs(self):
        chance = random.Random(41)
        many = 0
        for web in some_webs(41, 150):
            for purse in purses_around(chance, web):
                if most_at_a_time(web, purse) <= 3:
                    many = max(many, len(self.check(web, purse)))
        self.assertGreater(many, 2)

    def test_on_webs_of_full_size(self):
        for seed in range(3):
            self.check(full_web(seed), (3, 1))
            self.check(full_web(seed, ((1, 2), (2, 3), (5, 6), None)), (3, 2))

    def test_what_is_told_changes_nothing(self):
        web = diamond()
        told = treads_of(web, (5, 6))
        picture = deep(told)
        told.clear()
        self.assertEqual(treads_of(web, (5, 6)), picture)
        told = treads_of(web, (5, 6))
        web[1].clear()
        self.assertEqual(told, picture)


class TestLengthBy(unittest.TestCase):
    def test_at_between_and_beyond(self):
        treads = [((0, 1), (3, 1)), ((1, 2), (23, 6)), ((5, 6), (4, 1)), ((5, 2), None)]
        little = Fraction(1, LONG)
        for number, (at, length) in enumerate(treads):
            self.assertEqual(length_by(treads, at), length)
            self.assertEqual(length_by(treads, pair(Fraction(*at) + little)), length)
            if number:
                self.assertEqual(length_by(treads, pair(Fraction(*at) - little)), treads[number - 1][1])
        self.assertIsNone(length_by(treads, (LONG, 1)))
        self.assertEqual(length_by(treads[:3], (99, 1)), (4, 1))
        self.assertEqual(length_by(treads[:1], (99, 1)), (3, 1))
        self.assertIsNone(length_by([((0, 1), None)], (0, 1)))

    def test_as_the_best_takings(self):
        chance = random.Random(42)
        for web in some_webs(42, 60):
            purse = max(purses_around(chance, web), key=lambda one: Fraction(*one))
            if most_at_a_time(web, purse) > 3:
                continue
            treads = treads_of(web, purse)
            for part in range(5):
                less = pair(Fraction(*purse) * Fraction(part, 4))
                self.assertEqual(length_by(treads, less), best_length(web, less))
                told = best_taking(web, less)
                self.assertEqual(length_by(treads, less), told[3][web[3]] if told[0] == "left" else None)

    def test_no_purse(self):
        treads = treads_of(diamond(), (5, 6))
        for purse in WRONG_PURSES + (Prickly(),):
            self.assertEqual(refusal(length_by, treads, purse), ("NoPurse",))

    def test_what_is_handed_in_stays(self):
        treads = treads_of(diamond(), (5, 6))
        self.assertIsNone(refusal(length_by, treads, (1, 1)))
        self.assertIsNone(refusal(treads_of, diamond(), (1, 1)))


class TestRefused(unittest.TestCase):
    def test_more_than_three_at_once(self):
        for ends in (("a", "b"), ("b", "a")):
            web = (["a", "b"], [tie(*ends)] * 4, "a", "b")
            self.assertEqual(refusal(treads_of, web, (4, 1)), ("TooMany",))
            self.assertEqual(refusal(treads_of, web, (LONG, 1)), ("TooMany",))
            self.assertIsNone(refusal(treads_of, web, pair(4 - Fraction(1, LONG))))

    def test_order_of_refusals(self):
        many = (["a", "b"], [tie("a", "b")] * 4, "a", "b")
        for web in WRONG_WEBS:
            for purse in (None, (0, 1), (99, 1)):
                self.assertEqual(refusal(treads_of, web, purse), BAD_WEB)
        for purse in WRONG_PURSES + (Prickly(),):
            self.assertEqual(refusal(treads_of, diamond(), purse), ("NoPurse",))
            self.assertEqual(refusal(treads_of, many, purse), ("NoPurse",))


if __name__ == "__main__":
    unittest.main()
