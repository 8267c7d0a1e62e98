import unittest

from farthestcut.ways import length_of, look_at_way, places_of
from helper import (
    Prickly, all_takings, all_ways, deep, diamond, is_askers_own, odd_things, pair, refusal, size, some_webs, tie,
)

LONG = 10 ** 60 - 1
BAD_WEB = ("NoWeb", "web", None)


def row_web():
    """a to c in a row, with ties back to a and on from c to d and e."""
    return (
        ["a", "b", "c", "d", "e"],
        [
            tie("a", "b"),
            tie("b", "c"),
            tie("b", "a"),
            tie("c", "d", "both"),
            tie("d", "e"),
            tie("c", "b", "both"),
            tie("d", "b", "both"),
        ],
        "a",
        "d",
    )


class TestLook(unittest.TestCase):
    def at(self, web, taking, thing):
        told = refusal(look_at_way, web, taking, thing)
        self.assertEqual(told[0], "NoWay")
        return told[1]

    def test_ways(self):
        for way in ([0, 1], [2, 3], [0, 4, 3], [2, 4, 1]):
            self.assertIsNone(look_at_way(diamond(), [], way))
        for way in ([0, 1, 3], [0, 5, 3], [0, 6]):
            self.assertIsNone(look_at_way(row_web(), [], way))

    def test_one_and_both(self):
        web = (["a", "b"], [tie("a", "b", "one"), tie("b", "a", "one"), tie("a", "b", "both"), tie("b", "a", "both")],
               "a", "b")
        told = [refusal(look_at_way, web, [], [number]) for number in range(4)]
        self.assertEqual(told, [None, ("NoWay", 0), None, None])
        web = web[:2] + ("b", "a")
        told = [refusal(look_at_way, web, [], [number]) for number in range(4)]
        self.assertEqual(told, [("NoWay", 0), None, None, None])

    def test_with_a_taking(self):
        self.assertIsNone(look_at_way(diamond(), [0, 1], [2, 3]))
        self.assertIsNone(look_at_way(diamond(), [0], [2, 4, 1]))
        self.assertEqual(self.at(diamond(), [0], [0, 1]), 0)
        self.assertEqual(self.at(diamond(), [1], [0, 1]), 1)
        self.assertEqual(self.at(diamond(), [1], [2, 4, 1]), 2)
        self.assertEqual(self.at(diamond(), [1, 4], [0, 4, 3]), 1)

    def test_no_number_of_a_tie(self):
        for thing in (True, False, None, "1", "", -1, -7, 7, 99, LONG, [1], (1,), (1, 1), {}, {1}, Prickly()):
            with self.subTest(repr(thing)):
                self.assertEqual(self.at(row_web(), [], [thing]), 0)
                self.assertEqual(self.at(row_web(), [], [0, thing]), 1)
                self.assertEqual(self.at(row_web(), [], [0, thing, 3]), 1)
                self.assertEqual(self.at(row_web(), [], [0, 1, thing]), 2)
                self.assertEqual(self.at(row_web(), [], [0, 1, 3, thing]), 3)

    def test_a_truth_for_a_number(self):
        web = (["a", "b"], [tie("a", "b"), tie("a", "b")], "a", "b")
        self.assertIsNone(look_at_way(web, [], [1]))
        self.assertEqual(self.at(web, [], [True]), 0)
        self.assertEqual(self.at(web, [], [False]), 0)

    def test_not_from_where_one_stands(self):
        self.assertEqual(self.at(row_web(), [], [1]), 0)
        self.assertEqual(self.at(row_web(), [], [2]), 0)
        self.assertEqual(self.at(row_web(), [], [0, 3]), 1)
        self.assertEqual(self.at(row_web(), [], [0, 1, 4]), 2)
        self.assertEqual(self.at((["a", "b"], [tie("b", "a")], "a", "b"), [], [0]), 0)

    def test_a_place_where_one_was(self):
        self.assertEqual(self.at(row_web(), [], [0, 2]), 1)
        self.assertEqual(self.at(row_web(), [], [0, 2, 0, 1, 3]), 1)
        self.assertEqual(self.at(row_web(), [], [0, 1, 5]), 2)
        self.assertEqual(self.at(row_web(), [], [0, 5, 5, 1, 3]), 2)
        back = (["a", "b", "c"], [tie("a", "b", "both"), tie("b", "c")], "a", "c")
        self.assertEqual(self.at(back, [], [0, 0]), 1)
        self.assertEqual(self.at(back, [], [0, 0, 0, 1]), 1)

    def test_behind_last(self):
        self.assertEqual(self.at(row_web(), [], [0, 1, 3, 4]), 3)
        self.assertEqual(self.at(row_web(), [], [0, 6, 4]), 2)
        on = (["a", "b", "c"], [tie("a", "b"), tie("b", "c"), tie("c", "b")], "a", "b")
        self.assertIsNone(look_at_way(on, [], [0]))
        self.assertEqual(self.at(on, [], [0, 1]), 1)
        self.assertEqual(self.at(on, [], [0, 1, 2]), 1)
        self.assertEqual(self.at(on, [], [0, 99]), 1)

    def test_ends_too_early(self):
        self.assertEqual(self.at(row_web(), [], []), 0)
        self.assertEqual(self.at(row_web(), [], [0]), 1)
        self.assertEqual(self.at(row_web(), [], [0, 1]), 2)
        self.assertEqual(self.at((["a", "b"], [], "a", "b"), [], []), 0)

    def test_no_list(self):
        for thing in (None, (), (0, 1), {}, {0: 1}, {0, 1}, "", "01", 0, True, range(2), object(), Prickly()):
            with self.subTest(repr(thing)):
                self.assertIsNone(self.at(diamond(), [], thing))

    def test_odd_things(self):
        for thing in odd_things():
            self.assertEqual(refusal(look_at_way, diamond(), [], thing)[0], "NoWay")
        ring = [0]
        ring.append(ring)
        self.assertEqual(self.at(diamond(), [], ring), 1)

    def test_just_the_ways_of_small_webs(self):
        for web in some_webs(9, 40):
            ways = all_ways(web)
            for taking in all_takings(web, (3, 1)):
                for way in ways:
                    hit = [at for at, number in enumerate(way) if number in taking]
                    told = refusal(look_at_way, web, taking, way)
                    self.assertEqual(told, ("NoWay", hit[0]) if hit else None)


class TestTold(unittest.TestCase):
    def test_lengths_and_places(self):
        self.assertEqual(length_of(diamond(), [0, 1]), (3, 1))
        self.assertEqual(length_of(diamond(), [0, 4, 3]), (23, 6))
        self.assertEqual(length_of(diamond(), [2, 4, 1]), (23, 6))
        self.assertEqual(places_of(diamond(), [0, 1]), ["a", "b", "d"])
        self.assertEqual(places_of(diamond(), [0, 4, 3]), ["a", "b", "c", "d"])
        self.assertEqual(places_of(diamond(), [2, 4, 1]), ["a", "c", "b", "d"])
        self.assertEqual(places_of(row_web(), [0, 6]), ["a", "b", "d"])

    def test_on_small_webs(self):
        for web in some_webs(10, 60):
            for way in all_ways(web):
                self.assertEqual(length_of(web, way), pair(size(web, way)))
                places = places_of(web, way)
                self.assertEqual((places[0], places[-1], len(places)), (web[2], web[3], len(way) + 1))
                for number, here, there in zip(way, places, places[1:]):
                    self.assertEqual({here, there}, set(web[1][number][:2]))

    def test_of_long_numbers(self):
        web = (["a", "b", "c"], [tie("a", "b", "one", (1, LONG)), tie("b", "c", "one", (LONG, LONG - 1))], "a", "c")
        self.assertEqual(length_of(web, [0, 1]), pair(size(web, [0, 1])))

    def test_of_none(self):
        for function in (length_of, places_of):
            for thing, at in ((None, None), ((0, 1), None), ([], 0), ([0], 1), ([1], 0), ([0, 1, 3], 2), ([0, True], 1),
                              ([0, 0], 1), ([5], 0), ([-1], 0)):
                with self.subTest(function=function.__name__, thing=thing):
                    self.assertEqual(refusal(function, diamond(), thing), ("NoWay", at))

    def test_the_list_is_the_askers_own(self):
        web = diamond()
        told = places_of(web, [0, 1])
        self.assertTrue(is_askers_own(told, (web,)))
        told.append("x")
        self.assertEqual(web, diamond())
        self.assertEqual(places_of(web, [0, 1]), ["a", "b", "d"])

    def test_order_of_refusals(self):
        for web in (None, (), ["a"]):
            self.assertEqual(refusal(look_at_way, web, None, None), BAD_WEB)
            self.assertEqual(refusal(look_at_way, web, [], [0, 1]), BAD_WEB)
            self.assertEqual(refusal(length_of, web, None), BAD_WEB)
            self.assertEqual(refusal(places_of, web, None), BAD_WEB)
        for taking in (None, [3], [1, 0], [True], (0,)):
            self.assertEqual(refusal(look_at_way, diamond(), taking, None), ("NoTaking",))
            self.assertEqual(refusal(look_at_way, diamond(), taking, [0, 1]), ("NoTaking",))

    def test_what_is_handed_in_stays(self):
        web, taking, way = diamond(), [4], [0, 1]
        others = deep((web, taking, way))
        for k in range(2):
            self.assertIsNone(look_at_way(web, taking, way))
            self.assertEqual(length_of(web, way), (3, 1))
            self.assertEqual(places_of(web, way), ["a", "b", "d"])
        self.assertEqual((web, taking, way), others)


if __name__ == "__main__":
    unittest.main()
