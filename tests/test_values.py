import unittest
from fractions import Fraction

from farthestcut.values import most_valued, value_of, values_all
from farthestcut.ways import length_of, look_at_way
from helper import Prickly, all_ways, deep, diamond, is_askers_own, least_size, pair, refusal, size, some_webs, tie

LONG = 10 ** 60 - 1


def bridge():
    """One tie that all ways need, watched, then two unlike ties beside one another, then one that leads back."""
    return (
        ["a", "b", "c"],
        [tie("a", "b", "one", (1, 1), None), tie("b", "c", "one", (1, 2)), tie("c", "b", "both", (5, 6), None),
         tie("c", "a")],
        "a",
        "c",
    )


def apart():
    return (["a", "b", "c"], [tie("a", "b"), tie("c", "b"), tie("c", "a", "one", (0, 1), None)], "a", "c")


class TestOneByOne(unittest.TestCase):
    def test_values(self):
        self.assertEqual([value_of(diamond(), number) for number in range(5)],
                         [(5, 6), (5, 6), (0, 1), (0, 1), (0, 1)])
        self.assertEqual([value_of(bridge(), number) for number in range(4)], ["cut", (1, 3), (0, 1), (0, 1)])
        self.assertEqual([value_of(apart(), number) for number in range(3)], ["none", "none", "none"])

    def test_watched_ties_have_a_value(self):
        web = (["a", "b"], [tie("a", "b", "one", (1, 1), None), tie("a", "b", "one", (2, 1), None)], "a", "b")
        self.assertEqual([value_of(web, 0), value_of(web, 1)], [(1, 1), (0, 1)])

    def test_lengths_alike(self):
        web = (["a", "b"], [tie("a", "b"), tie("b", "a", "both"), tie("a", "b", "one", (3, 1))], "a", "b")
        self.assertEqual([value_of(web, number) for number in range(3)], [(0, 1), (0, 1), (0, 1)])
        self.assertEqual(most_valued(web), [0, 1, 2])

    def test_long_numbers(self):
        web = (["a", "b"], [tie("a", "b", "one", (1, LONG)), tie("a", "b", "one", (LONG, LONG - 1))], "a", "b")
        self.assertEqual(value_of(web, 0), pair(Fraction(LONG, LONG - 1) - Fraction(1, LONG)))

    def test_no_tie(self):
        for number in (True, False, None, "0", "", -1, 5, 99, LONG, -LONG, [0], (0,), (0, 1), {}, Prickly()):
            with self.subTest(repr(number)):
                self.assertEqual(refusal(value_of, diamond(), number), ("NoTie",))
        self.assertEqual(refusal(value_of, (["a", "b"], [], "a", "b"), 0), ("NoTie",))

    def test_a_web_ahead_of_all_else(self):
        for web in (None, (), [], 0):
            self.assertEqual(refusal(value_of, web, None), ("NoWeb", "web", None))
            self.assertEqual(refusal(value_of, web, 0), ("NoWeb", "web", None))
            self.assertEqual(refusal(values_all, web), ("NoWeb", "web", None))
            self.assertEqual(refusal(most_valued, web), ("NoWeb", "web", None))


class TestAll(unittest.TestCase):
    def check(self, web):
        told = values_all(web)
        self.assertEqual(len(told), len(web[1]))
        least = least_size(web)
        for number, (value, way) in enumerate(told):
            without = least_size(web, (number,))
            if least is None:
                self.assertEqual((value, way), ("none", None))
            elif without is None:
                self.assertEqual((value, way), ("cut", None))
            else:
                self.assertEqual(value, pair(without - least))
                self.assertIsNone(look_at_way(web, [], way))
                self.assertNotIn(number, way)
                self.assertEqual(length_of(web, way), pair(without))
            self.assertEqual(value_of(web, number), value)
            self.assertIs(told[number].__class__, tuple)
        self.assertTrue(is_askers_own(told, (web,)))
        self.check_most(web, [value for value, way in told])

    def check_most(self, web, values):
        worth = {number: float("inf") if value == "cut" else Fraction(*value)
                 for number, value in enumerate(values) if value != "none"}
        most = [number for number in worth if worth[number] == max(worth.values())]
        self.assertEqual(most_valued(web), most)

    def test_told(self):
        self.assertEqual(values_all(bridge()), [("cut", None), ((1, 3), [0, 2]), ((0, 1), [0, 1]), ((0, 1), [0, 1])])
        self.assertEqual(values_all(apart()), [("none", None)] * 3)
        self.assertEqual(values_all((["a", "b"], [], "a", "b")), [])

    def test_most_valued(self):
        self.assertEqual(most_valued(diamond()), [0, 1])
        self.assertEqual(most_valued(bridge()), [0])
        self.assertEqual(most_valued(bridge()[:2] + ("c", "b")), [2])
        self.assertEqual(most_valued(apart()), [])
        self.assertEqual(most_valued((["a", "b"], [], "a", "b")), [])
        row = (["a", "b", "c", "d"], [tie("b", "a"), tie("c", "d"), tie("a", "b"), tie("d", "a"), tie("b", "c")],
               "a", "d")
        self.assertEqual(most_valued(row), [1, 2, 4])

    def test_on_small_webs(self):
        for web in [diamond(), bridge(), apart()] + some_webs(12, 150):
            self.check(web)

    def test_on_webs_of_full_size(self):
        for web in some_webs(13, 12, 7, 14):
            self.check(web)

    def test_the_lists_are_the_askers_own(self):
        web = diamond()
        told = values_all(web)
        picture = deep(told)
        for value, way in told:
            way.append(9)
        told.clear()
        most_valued(web).append(9)
        self.assertEqual(web, diamond())
        self.assertEqual(values_all(web), picture)
        self.assertEqual(most_valued(web), [0, 1])

    def test_what_is_handed_in_stays(self):
        for web in (diamond(), bridge(), apart()):
            self.assertIsNone(refusal(value_of, web, 0))
            self.assertIsNone(refusal(values_all, web))
            self.assertIsNone(refusal(most_valued, web))

    def test_no_way_without_is_shorter(self):
        for web in some_webs(14, 40):
            for number, (value, way) in enumerate(values_all(web)):
                for other in all_ways(web, (number,)):
                    self.assertLessEqual(size(web, way), size(web, other))


if __name__ == "__main__":
    unittest.main()
