import random
import unittest
from fractions import Fraction

from farthestcut.takings import is_within, look_at_purse, look_at_taking, most_at_once, worth_of
from helper import Prickly, all_takings, deep, diamond, odd_things, pair, refusal, some_ratio, some_webs, tie

LONG = 10 ** 60 - 1
BAD_WEB = ("NoWeb", "web", None)


def web_of(worths):
    return (["a", "b"], [tie("a", "b", "one", (1, 1), worth) for worth in worths], "a", "b")


class TestPurse(unittest.TestCase):
    def test_purses(self):
        for thing in ((0, 1), (1, 1), (7, 3), (1, LONG), (LONG, 1)):
            self.assertIsNone(look_at_purse(thing))

    def test_none(self):
        for thing in odd_things() + [(-1, 1), (-1, 3), (2, 4), (0, 3), (1, -2), [1, 1], 1, 0, "1", (1,), (1, 1, 1),
                                     (1, None), ("1", 1), (-LONG, 1)]:
            with self.subTest(repr(thing)):
                self.assertEqual(refusal(look_at_purse, thing), ("NoPurse",))


class TestTaking(unittest.TestCase):
    def test_takings(self):
        for thing in ([], [0], [1], [2], [4], [0, 1], [1, 4], [0, 1, 2, 4]):
            self.assertIsNone(look_at_taking(diamond(), thing))

    def test_none(self):
        for thing in ([1, 0], [0, 2, 1], [0, 0], [4, 4], [3], [0, 3], [3, 4], [5], [0, 5], [-1], [-1, 0], [True],
                      [False], [False, 1], [0, True], ["0"], [None], [[0]], [(0,)], (), (0,), (0, 1), {}, {0: 1}, {0},
                      None, 0, "", "0", [0, Prickly()], Prickly(), [LONG], [-LONG], range(2)):
            with self.subTest(repr(thing)):
                self.assertEqual(refusal(look_at_taking, diamond(), thing), ("NoTaking",))

    def test_of_no_ties(self):
        self.assertIsNone(look_at_taking(web_of([]), []))
        self.assertEqual(refusal(look_at_taking, web_of([]), [0]), ("NoTaking",))

    def test_odd_things(self):
        for thing in odd_things():
            self.assertEqual(refusal(look_at_taking, diamond(), thing), ("NoTaking",))


class TestWorth(unittest.TestCase):
    def test_worths(self):
        self.assertEqual(worth_of(diamond(), []), (0, 1))
        self.assertEqual(worth_of(diamond(), [1]), (1, 2))
        self.assertEqual(worth_of(diamond(), [0, 1]), (3, 2))
        self.assertEqual(worth_of(diamond(), [1, 4]), (5, 6))
        self.assertEqual(worth_of(diamond(), [0, 1, 2, 4]), (23, 6))

    def test_refused(self):
        self.assertEqual(refusal(worth_of, None, [0]), BAD_WEB)
        self.assertEqual(refusal(worth_of, diamond(), [3]), ("NoTaking",))
        self.assertEqual(refusal(worth_of, diamond(), [1, 0]), ("NoTaking",))

    def test_within(self):
        for purse, told in (((5, 6), True), ((1, 1), True), ((4, 5), False), ((5 * 10 ** 50 - 1, 6 * 10 ** 50), False),
                            ((5 * 10 ** 50 + 1, 6 * 10 ** 50), True), ((0, 1), False)):
            with self.subTest(purse):
                self.assertIs(is_within(diamond(), [1, 4], pair(Fraction(*purse))), told)
        self.assertIs(is_within(diamond(), [], (0, 1)), True)

    def test_within_of_long_numbers(self):
        web = web_of([(1, LONG), (1, LONG - 1)])
        whole = Fraction(1, LONG) + Fraction(1, LONG - 1)
        self.assertEqual(worth_of(web, [0, 1]), pair(whole))
        self.assertIs(is_within(web, [0, 1], pair(whole)), True)
        self.assertIs(is_within(web, [0, 1], (2, LONG)), False)
        self.assertIs(is_within(web, [0, 1], (1, LONG // 2)), True)


class TestAtOnce(unittest.TestCase):
    def test_worths_alike(self):
        for purse, told in (((0, 1), 0), ((1, 2), 0), ((1, 1), 1), ((5, 2), 2), ((3, 1), 3), ((99, 1), 3)):
            self.assertEqual(most_at_once(web_of([(1, 1)] * 3), purse), told)

    def test_worths_unlike(self):
        web = web_of([(5, 1), (1, 2), (3, 1), (1, 3)])
        for purse, told in (((1, 4), 0), ((1, 3), 1), ((4, 5), 1), ((5, 6), 2), ((23, 6), 3), ((19, 5), 2),
                            ((53, 6), 4), ((52, 6), 3)):
            self.assertEqual(most_at_once(web, pair(Fraction(*purse))), told)

    def test_watched(self):
        self.assertEqual(most_at_once(web_of([None, None]), (9, 1)), 0)
        self.assertEqual(most_at_once(web_of([None, (2, 1), None, (1, 1)]), (3, 1)), 2)
        self.assertEqual(most_at_once(web_of([None, (2, 1), None, (1, 1)]), (2, 1)), 1)

    def test_of_no_ties(self):
        self.assertEqual(most_at_once(web_of([]), (0, 1)), 0)
        self.assertEqual(most_at_once(web_of([]), (9, 1)), 0)

    def test_fourteen(self):
        self.assertEqual(most_at_once(web_of([(1, LONG - k) for k in range(14)]), (1, 1)), 14)

    def test_by_all_takings(self):
        chance = random.Random(8)
        for web in some_webs(8, 60):
            purse = some_ratio(chance)
            within = all_takings(web, purse)
            self.assertEqual(most_at_once(web, purse), max(len(taking) for taking in within))
            for taking in within:
                self.assertIs(is_within(web, taking, purse), True)


class TestOrder(unittest.TestCase):
    def test_a_web_ahead_of_all_else(self):
        for web, told in ((None, BAD_WEB), ((["a"], [], "a", "b"), ("NoWeb", "places", None)),
                          ((["a", "b"], [tie("a", "c")], "a", "b"), ("NoWeb", "ties", 0))):
            self.assertEqual(refusal(look_at_taking, web, None), told)
            self.assertEqual(refusal(worth_of, web, None), told)
            self.assertEqual(refusal(is_within, web, None, None), told)
            self.assertEqual(refusal(is_within, web, [], (1, 1)), told)
            self.assertEqual(refusal(most_at_once, web, None), told)
            self.assertEqual(refusal(most_at_once, web, (1, 1)), told)

    def test_a_taking_ahead_of_a_purse(self):
        self.assertEqual(refusal(is_within, diamond(), [3], (-1, 1)), ("NoTaking",))
        self.assertEqual(refusal(is_within, diamond(), [3], (1, 1)), ("NoTaking",))
        self.assertEqual(refusal(is_within, diamond(), [0], (-1, 1)), ("NoPurse",))
        self.assertEqual(refusal(is_within, diamond(), [], None), ("NoPurse",))
        self.assertEqual(refusal(most_at_once, diamond(), (2, 4)), ("NoPurse",))
        self.assertEqual(refusal(most_at_once, diamond(), None), ("NoPurse",))

    def test_what_is_handed_in_stays(self):
        web, taking, purse = diamond(), [1, 4], (1, 1)
        others = deep((web, taking, purse))
        for k in range(2):
            self.assertIsNone(look_at_taking(web, taking))
            self.assertEqual(worth_of(web, taking), (5, 6))
            self.assertIs(is_within(web, taking, purse), True)
            self.assertEqual(most_at_once(web, purse), 2)
        self.assertEqual((web, taking, purse), others)


if __name__ == "__main__":
    unittest.main()
