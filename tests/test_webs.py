import unittest

from farthestcut.webs import is_tie, look_at_web
from helper import Prickly, deep, diamond, odd_things, refusal, tie

LONG = 10 ** 60 - 1
NAMES = ["a", "b", "c", "d", "e", "f", "g", "h", "i"]


class TestTie(unittest.TestCase):
    def test_ties(self):
        for thing in (
            ("a", "b", "one", (1, 1), (1, 1)),
            ("b", "a", "both", (0, 1), None),
            ("abcdefgh", "abcdefgi", "one", (LONG, 2), (1, LONG)),
        ):
            self.assertIs(is_tie(thing), True)

    def test_each_thing_otherwise(self):
        right = ("a", "b", "one", (1, 2), (1, 3))
        others = (
            (0, ["", "A", "abcdefghi", "b", None, 1, ["a"], ("a",), b"a", Prickly()]),
            (1, ["", "B", "a1", "a", None, 1, ["b"], ("b",), b"b", Prickly()]),
            (2, ["", "One", "ones", "on", "none", None, 1, True, ["one"], ("one", "both"), b"one", Prickly()]),
            (3, [None, 0, 1, (-1, 2), (2, 4), (0, 2), (1, 0), (1, -1), (True, 1), [1, 2], (1,), (1, 2, 3), "1",
                 Prickly()]),
            (4, [0, 1, (0, 1), (-1, 2), (2, 4), (1, 0), (1, True), False, True, [1, 2], (1,), (1, 2, 3), "1", "",
                 (), Prickly()]),
        )
        self.assertIs(is_tie(right), True)
        for place, things in others:
            for thing in things:
                with self.subTest(place=place, thing=repr(thing)):
                    self.assertIs(is_tie(right[:place] + (thing,) + right[place + 1:]), False)

    def test_too_few_too_many(self):
        right = ("a", "b", "one", (1, 2), (1, 3))
        for many in range(5):
            self.assertIs(is_tie(right[:many]), False)
        self.assertIs(is_tie(right + (None,)), False)
        self.assertIs(is_tie(right + right), False)

    def test_no_tuple(self):
        self.assertIs(is_tie(["a", "b", "one", (1, 2), (1, 3)]), False)
        for thing in odd_things():
            self.assertIs(is_tie(thing), False)

    def test_names_alike(self):
        self.assertIs(is_tie(("a", "a", "one", (1, 1), None)), False)

    def test_noughts(self):
        self.assertIs(is_tie(("a", "b", "one", (0, 1), None)), True)
        self.assertIs(is_tie(("a", "b", "one", (1, 1), (0, 1))), False)


class TestWeb(unittest.TestCase):
    def refused(self, thing):
        told = refusal(look_at_web, thing)
        self.assertEqual(told[0], "NoWeb")
        return told[1:]

    def test_webs(self):
        self.assertIsNone(look_at_web(diamond()))
        self.assertIsNone(look_at_web((["a", "b"], [], "b", "a")))
        several = (["a", "b"], [tie("a", "b"), tie("a", "b"), tie("b", "a", "both")], "a", "b")
        self.assertIsNone(look_at_web(several))

    def test_sizes(self):
        for many in range(10):
            told = refusal(look_at_web, (NAMES[:many], [], "a", "b"))
            self.assertEqual(told, None if 2 <= many <= 7 else ("NoWeb", "places", None))
        for many in range(18):
            told = refusal(look_at_web, (["a", "b"], [tie("a", "b")] * many, "a", "b"))
            self.assertEqual(told, None if many <= 14 else ("NoWeb", "ties", None))

    def test_no_tuple_of_four(self):
        right = diamond()
        for thing in odd_things() + [list(right), right[:3], right + ("a",), right[:1], dict(enumerate(right))]:
            self.assertEqual(self.refused(thing), ("web", None))

    def test_places(self):
        for places in (None, "ab", ("a", "b"), {"a": 1, "b": 2}, {"a", "b"}, 2, [], ["a"], NAMES[:8], [None],
                       [None] * 8, ["a"] * 9, Prickly()):
            self.assertEqual(self.refused((places, [], "a", "b")), ("places", None))
        for places, number in (
            (["A", "b"], 0), ([None, None], 0), (["a", "a"], 1), (["a", "b", "a", "b"], 2), (["a", "b", "abcdefghi"], 2),
            (["a", "b", "c", "d", "e", "f", "f"], 6), (["a", ["b"], "a"], 1), (["a", Prickly()], 1), (["a", True], 1),
            (["a", ""], 1), (["a", b"b"], 1), (["a", "b", "c", 3, "c"], 3),
        ):
            self.assertEqual(self.refused((places, [], "a", "b")), ("places", number))

    def test_ties(self):
        places = ["a", "b", "c"]
        right = tie("a", "b")
        for ties in (None, (), (right,), {}, {0: right}, "", 0, [None] * 15, [right] * 15, Prickly()):
            self.assertEqual(self.refused((places, ties, "a", "b")), ("ties", None))
        for ties, number in (
            ([None], 0), ([right, list(right)], 1), ([right, tie("a", "d")], 1), ([tie("d", "a"), right], 0),
            ([right] * 13 + [tie("a", "a")], 13), ([right, right, tie("a", "b", "both", (1, 1), (0, 1)), None], 2),
            ([right, Prickly()], 1), ([right, tie("a", "b", "two"), tie("a", "d")], 1), ([tie("a", "b", "one", 1)], 0),
        ):
            self.assertEqual(self.refused((places, ties, "a", "b")), ("ties", number))

    def test_first_and_last(self):
        for thing in (None, "", "d", "A", 0, ["a"], ("a",), True, Prickly()):
            self.assertEqual(self.refused((["a", "b", "c"], [], thing, "b")), ("first", None))
            self.assertEqual(self.refused((["a", "b", "c"], [], "a", thing)), ("last", None))
        self.assertEqual(self.refused((["a", "b", "c"], [], "b", "b")), ("last", None))

    def test_the_first_part_that_is_not_so(self):
        wrong = (["a", "a"], [None], None, None)
        right = diamond()
        parts = (("places", 1), ("ties", 0), ("first", None), ("last", None))
        for many in range(4):
            self.assertEqual(self.refused(right[:many] + wrong[many:]), parts[many])
        self.assertIsNone(look_at_web(right))
        self.assertEqual(self.refused((None, None, None, None)), ("places", None))
        self.assertEqual(self.refused((["a", "b"], None, None, None)), ("ties", None))
        self.assertEqual(self.refused((["a", "b"], [], "d", "d")), ("first", None))

    def test_alike_twice(self):
        right = diamond()
        other = deep(right)
        self.assertIsNone(look_at_web(right))
        self.assertIsNone(look_at_web(right))
        self.assertEqual(right, other)


if __name__ == "__main__":
    unittest.main()
