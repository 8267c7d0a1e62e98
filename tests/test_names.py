import unittest

from farthestcut.names import is_name, is_ratio, is_whole
from helper import Prickly, odd_things

LONG = 10 ** 60 - 1


class TestWhole(unittest.TestCase):
    def test_whole_numbers(self):
        for thing in (0, 1, -1, 13, LONG, -LONG):
            self.assertIs(is_whole(thing), True)

    def test_truths_are_none(self):
        self.assertIs(is_whole(True), False)
        self.assertIs(is_whole(False), False)

    def test_others(self):
        for thing in (None, "", "1", [], [1], (), (1,), (1, 1), {}, {1: 1}, set(), b"1", object(), int, Prickly()):
            with self.subTest(repr(thing)):
                self.assertIs(is_whole(thing), False)


class TestRatio(unittest.TestCase):
    def test_fractions(self):
        for thing in ((0, 1), (1, 1), (-1, 1), (2, 3), (-2, 3), (LONG, 1), (1, LONG), (-LONG, LONG - 1), (8, 9)):
            self.assertIs(is_ratio(thing), True)

    def test_not_in_lowest_terms(self):
        for thing in ((0, 2), (2, 2), (2, 4), (-2, 4), (6, 9), (LONG, LONG), (LONG, 9), (-9, 3)):
            self.assertIs(is_ratio(thing), False)

    def test_bottom_below_one(self):
        for thing in ((1, 0), (0, 0), (-1, 0), (1, -1), (1, -2), (-1, -2), (0, -1)):
            self.assertIs(is_ratio(thing), False)

    def test_of_other_kinds(self):
        for thing in ((True, 1), (1, True), (False, 1), ("1", 1), (1, "2"), (None, 1), (1, None), ((1, 1), 1),
                      (1, [1]), (Prickly(), 1), (1, Prickly())):
            with self.subTest(repr(thing)):
                self.assertIs(is_ratio(thing), False)

    def test_too_few_too_many(self):
        for thing in ((), (1,), (1, 2, 3), (1, 1, 1, 1)):
            self.assertIs(is_ratio(thing), False)

    def test_no_tuple(self):
        for thing in ([1, 2], [0, 1], "12", {1: 2, 2: 1}, {1, 2}, 1, 0, None, True, b"12", Prickly()):
            with self.subTest(repr(thing)):
                self.assertIs(is_ratio(thing), False)

    def test_odd_things(self):
        told = [thing for thing in odd_things() if is_ratio(thing)]
        self.assertEqual(told, [(-1, 2)])


class TestName(unittest.TestCase):
    def test_names(self):
        for thing in ("a", "z", "abcdefgh", "stuvwxyz", "zzzzzzzz", "qrst", "ijklmnop"):
            self.assertIs(is_name(thing), True)

    def test_lengths(self):
        for many in range(12):
            self.assertIs(is_name("n" * many), 1 <= many <= 8)

    def test_other_signs(self):
        for sign in ("A", "Z", "0", "9", " ", "\n", "\t", "_", "-", ",", "`", "{", "/", ".", "'"):
            for text in (sign, sign + "a", "a" + sign, "ab" + sign + "cd"):
                with self.subTest(text):
                    self.assertIs(is_name(text), False)

    def test_no_text(self):
        for thing in (None, 1, 0, True, False, [], ["a"], ("a",), {"a": 1}, {"a"}, b"a", object(), str, Prickly()):
            with self.subTest(repr(thing)):
                self.assertIs(is_name(thing), False)


if __name__ == "__main__":
    unittest.main()
