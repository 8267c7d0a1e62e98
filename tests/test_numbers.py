import random
import unittest
from fractions import Fraction

from farthestcut.numbers import is_less, least_of, minus, most_of, over, plus, ratio, sum_of, times
from helper import Prickly, pair, refusal

LONG = 10 ** 60 - 1


def samples():
    chance = random.Random(4)
    tops = [0, 1, -1, 2, -6, 7, LONG, -LONG, LONG // 9, 10 ** 59]
    tops += [chance.randint(-LONG, LONG) for k in range(6)] + [chance.randint(-20, 20) for k in range(10)]
    return tops


def fractions_told():
    bottoms = [1, 2, 3, 12, LONG, 10 ** 59]
    return sorted({pair(Fraction(top, bottom)) for top in samples() for bottom in bottoms})


class TestRatio(unittest.TestCase):
    def test_lowest_terms(self):
        for told, asked in (
            ((1, 2), (1, 2)), ((1, 2), (2, 4)), ((-1, 2), (1, -2)), ((-1, 2), (-2, 4)), ((1, 2), (-3, -6)),
            ((0, 1), (0, 5)), ((0, 1), (0, -5)), ((7, 1), (7, 1)), ((-7, 1), (7, -1)), ((3, 1), (12, 4)),
        ):
            with self.subTest(asked):
                self.assertEqual(ratio(*asked), told)

    def test_as_by_fractions(self):
        for top in samples():
            for bottom in samples():
                if bottom != 0:
                    told = ratio(top, bottom)
                    self.assertEqual(told, pair(Fraction(top, bottom)))
                    self.assertEqual([one.__class__ for one in told], [int, int])
                    self.assertIs(told.__class__, tuple)

    def test_sixty_figures(self):
        self.assertEqual(ratio(LONG, -LONG), (-1, 1))
        self.assertEqual(ratio(LONG, 9), (LONG // 9, 1))
        self.assertEqual(ratio(9, LONG), (1, LONG // 9))

    def test_by_nought(self):
        for top in (0, 1, -1, LONG):
            self.assertEqual(refusal(ratio, top, 0), ("NoNumber",))

    def test_of_anything_else(self):
        odd = [None, True, False, "1", "", [], [1], (), (1, 2), (1, 1), {}, set(), b"1", object(), int, Prickly()]
        for thing in odd:
            with self.subTest(repr(thing)):
                self.assertEqual(refusal(ratio, thing, 1), ("NoNumber",))
                self.assertEqual(refusal(ratio, 1, thing), ("NoNumber",))
                self.assertEqual(refusal(ratio, thing, 0), ("NoNumber",))
                self.assertEqual(refusal(ratio, thing, thing), ("NoNumber",))


class TestReckoning(unittest.TestCase):
    def test_ordinary(self):
        self.assertEqual(plus((1, 2), (1, 3)), (5, 6))
        self.assertEqual(plus((1, 6), (1, 3)), (1, 2))
        self.assertEqual(minus((1, 2), (1, 3)), (1, 6))
        self.assertEqual(minus((1, 3), (1, 2)), (-1, 6))
        self.assertEqual(minus((1, 3), (1, 3)), (0, 1))
        self.assertEqual(times((2, 3), (-3, 2)), (-1, 1))
        self.assertEqual(over((1, 2), (-1, 3)), (-3, 2))
        self.assertEqual(over((0, 1), (-1, 3)), (0, 1))

    def test_as_by_fractions(self):
        for one in fractions_told()[::3]:
            for other in fractions_told()[::2]:
                left, right = Fraction(*one), Fraction(*other)
                self.assertEqual(plus(one, other), pair(left + right))
                self.assertEqual(minus(one, other), pair(left - right))
                self.assertEqual(times(one, other), pair(left * right))
                if right != 0:
                    self.assertEqual(over(one, other), pair(left / right))
                self.assertIs(is_less(one, other), left < right)

    def test_parted_by_nought(self):
        for one in ((0, 1), (1, 2), (-1, 3), (LONG, 1)):
            self.assertEqual(refusal(over, one, (0, 1)), ("NoNumber",))

    def test_less(self):
        self.assertIs(is_less((1, 3), (1, 2)), True)
        self.assertIs(is_less((1, 2), (1, 3)), False)
        self.assertIs(is_less((-1, 2), (-1, 3)), True)
        self.assertIs(is_less((-1, 3), (-1, 2)), False)
        self.assertIs(is_less((LONG - 1, LONG), (1, 1)), True)
        for one in fractions_told():
            self.assertIs(is_less(one, one), False)


class TestLists(unittest.TestCase):
    def test_of_one(self):
        for one in ((0, 1), (-1, 2), (LONG, 2)):
            self.assertEqual(least_of([one]), one)
            self.assertEqual(most_of([one]), one)
            self.assertEqual(sum_of([one]), one)

    def test_of_more(self):
        some = [(1, 2), (1, 3), (-1, 2), (2, 3), (1, 2), (-1, 3)]
        self.assertEqual(least_of(some), (-1, 2))
        self.assertEqual(most_of(some), (2, 3))
        self.assertEqual(sum_of(some), (7, 6))
        self.assertEqual(least_of([(3, 1), (2, 1), (1, 1)]), (1, 1))
        self.assertEqual(most_of([(1, 1), (2, 1), (3, 1)]), (3, 1))
        self.assertEqual(most_of([(-3, 1), (-2, 1)]), (-2, 1))

    def test_as_by_fractions(self):
        chance = random.Random(5)
        for k in range(60):
            some = chance.sample(fractions_told(), chance.randint(1, 9))
            values = [Fraction(*one) for one in some]
            self.assertEqual(least_of(some), pair(min(values)))
            self.assertEqual(most_of(some), pair(max(values)))
            self.assertEqual(sum_of(some), pair(sum(values)))

    def test_sum_of_none(self):
        self.assertEqual(sum_of([]), (0, 1))

    def test_the_list_stays(self):
        some = [(1, 2), (-1, 3), (5, 1)]
        for function in (least_of, most_of, sum_of):
            self.assertEqual(function(some), function(some))
            self.assertEqual(some, [(1, 2), (-1, 3), (5, 1)])


if __name__ == "__main__":
    unittest.main()
