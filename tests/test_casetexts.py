import random
import re
import unittest

from farthestcut.best import best_taking
from farthestcut.casetexts import read_cases, read_way, shown_cases, shown_way
from helper import (
    Prickly, deep, diamond, full_web, is_askers_own, most_at_a_time, odd_things, refusal, some_ratio, some_webs,
)

NOTHING = ("NoText", 0)
NUMBER = "(?:[0-9]|1[0-3])"
WAY = f"{NUMBER}(?:,{NUMBER}){{0,5}}"
CASE = rf"way {WAY} \[\]"
for depth in range(3):
    # A list that has something stands about what was let by till now, three times at most.
    CASE = rf"way {WAY} \[(?:{NUMBER}: {CASE}(?:; {NUMBER}: {CASE}){{0,5}})?\]"
PATTERN = re.compile(CASE)
DOCS = "way 0,3 [0: way 1 []; 3: way 1 []]"


def chain(many, way="0"):
    """Cases with so many lists that have something within one another."""
    return f"way {way} [0: " * many + f"way {way} []" + "]" * many


def some_cases(chance, around=0):
    way = [chance.randint(0, 13) for k in range(chance.randint(1, 6))]
    many = chance.randint(0, 6) if around < 3 and chance.random() < 0.5 else 0
    return ("way", way, [(chance.randint(0, 13), some_cases(chance, around + 1)) for k in range(many)])


class TestWay(unittest.TestCase):
    def test_written_and_read(self):
        for way, text in (([0], "0"), ([13], "13"), ([0, 3], "0,3"), ([10, 1, 2, 3, 4, 13], "10,1,2,3,4,13"),
                          ([5, 5, 5], "5,5,5")):
            self.assertEqual(shown_way(way), text)
            self.assertEqual(read_way(text), way)

    def test_every_number(self):
        for number in range(14):
            self.assertEqual(read_way(str(number)), [number])
            self.assertEqual(shown_way([number]), str(number))
        for number in (14, 15, 20, 99, 100, -1, 10 ** 60):
            self.assertEqual(refusal(read_way, str(number)), NOTHING)
            self.assertEqual(refusal(read_way, f"0,{number}"), NOTHING)

    def test_of_none_of_six_and_of_seven(self):
        self.assertEqual(refusal(read_way, ""), NOTHING)
        self.assertEqual(read_way("0,1,2,3,4,5"), [0, 1, 2, 3, 4, 5])
        self.assertEqual(refusal(read_way, "0,1,2,3,4,5,6"), NOTHING)
        self.assertEqual(shown_way([0, 1, 2, 3, 4, 5, 6, 14]), "0,1,2,3,4,5,6,14")

    def test_what_writes_none(self):
        for text in (",", "0,", ",0", "0,,1", "0, 1", "0 ,1", " 0", "0 ", "00", "01", "-0", "+1", "1.0", "a", "0;1", "0-1",
                     "[0]", "0\n", "\t0", "0,1,", "1_0", "0/1", ",".join(["1"] * 5000), "1" * 5000):
            self.assertEqual(refusal(read_way, text), NOTHING, text[:20])
        for thing in odd_things() + [[0], [0, 1], (0,), b"0", 0, Prickly()]:
            self.assertEqual(refusal(read_way, thing), NOTHING)

    def test_ways_of_another_kind(self):
        for way, at in ((None, None), ((0,), None), ("0", None), ([0, None], 1), ([True], 0), ([-1], 0)):
            self.assertEqual(refusal(shown_way, way), ("NoWay", at))

    def test_what_is_told_is_the_askers_own(self):
        told = read_way("0,3")
        told.clear()
        self.assertEqual(read_way("0,3"), [0, 3])


class TestCases(unittest.TestCase):
    def test_the_documents(self):
        cases = ("way", [0, 3], [(0, ("way", [1], [])), (3, ("way", [1], []))])
        self.assertEqual(read_cases(DOCS), cases)
        self.assertEqual(shown_cases(cases), DOCS)
        self.assertIsNotNone(PATTERN.fullmatch(DOCS))

    def test_three_lists_within_one_another_and_four(self):
        for many in range(4):
            told = read_cases(chain(many))
            self.assertEqual(shown_cases(told), chain(many))
            for k in range(many):
                self.assertEqual((told[0], told[1], len(told[2]), told[2][0][0]), ("way", [0], 1, 0))
                told = told[2][0][1]
            self.assertEqual(told, ("way", [0], []))
        for many in (4, 5, 9, 2000, 20000):
            self.assertEqual(refusal(read_cases, chain(many)), NOTHING)

    def test_deep_ones_behind_others(self):
        for other in (chain(0), chain(2), "way 1 [0: way 2 []; 1: way 3 []]"):
            self.assertIsNone(refusal(read_cases, f"way 0 [0: {other}; 1: {other}]"))
            self.assertEqual(refusal(read_cases, f"way 0 [0: {other}; 1: {chain(3)}]"), NOTHING)
            self.assertEqual(refusal(read_cases, f"way 0 [0: {chain(3)}; 1: {other}]"), NOTHING)

    def test_six_tuples_and_seven(self):
        for many, right in ((1, True), (6, True), (7, False), (3000, False)):
            inner = "; ".join(f"{k % 14}: way 0 []" for k in range(many))
            for text in (f"way 0 [{inner}]", f"way 0 [5: way 1 [{inner}]]", f"way 0 [5: way 1 [6: way 2 [{inner}]]]"):
                if right:
                    self.assertEqual(shown_cases(read_cases(text)), text)
                else:
                    self.assertEqual(refusal(read_cases, text), NOTHING)

    def test_ways_of_none_of_six_and_of_seven(self):
        self.assertEqual(read_cases("way 0,1,2,3,4,5 []"), ("way", [0, 1, 2, 3, 4, 5], []))
        for text in ("way  []", "way []", "way 0,1,2,3,4,5,6 []", "way 14 []", "way 0,14 []", "way 0 [14: way 1 []]",
                     "way 0 [13: way 14 []]", "way 0 [-1: way 1 []]", "way 0 [00: way 1 []]", "way 0 [01: way 1 []]"):
            self.assertEqual(refusal(read_cases, text), NOTHING, text)
        self.assertEqual(read_cases("way 13 [13: way 13 []]"), ("way", [13], [(13, ("way", [13], []))]))

    def test_each_sign_left_out_put_in_or_put_in_anothers_stead(self):
        for right in (DOCS, "way 13,1 [1: way 2 [0: way 3,4 []]; 13: way 5 []]", chain(3), "way 0 []"):
            texts = {right[:at] + right[at + 1:] for at in range(len(right))}
            for sign in " ,;:[]waylf0139-+/x\n\t\"'(":
                texts.update(right[:at] + sign + right[at:] for at in range(len(right) + 1))
                texts.update(right[:at] + sign + right[at + 1:] for at in range(len(right)))
            texts.update(right[:at] for at in range(len(right)))
            texts.update(right[at:] for at in range(1, len(right)))
            for text in texts:
                self.hold(text)

    def hold(self, text):
        if PATTERN.fullmatch(text):
            self.assertEqual(shown_cases(read_cases(text)), text)
        else:
            self.assertEqual(refusal(read_cases, text), NOTHING, text)

    def test_what_writes_none(self):
        for text in ("", "way", "way ", "way 0", "way 0 ", "way 0 [", "way 0 [0", "way 0 [0: ", "way 0 []]", "way 0 [] ",
                     " way 0 []", "flow 0 []", "Way 0 []", "way 0 [,]", "way 0 [; ]", "way 0 [0: way 1 []; ]",
                     "way 0 [0: way 1 [];]", "way 0 [0: way 1 [], 1: way 1 []]", "way 0 [0:way 1 []]",
                     "way 0 [ 0: way 1 []]", "way 0 [0: way 1 [] ]", "way 0 [0:  way 1 []]", "way 0 [0: way 1 []]\n",
                     "('way', [0], [])", "[" * 9000, "]" * 9000, "way 0 [" * 9000, "way 0 [0: " * 9000, "0: " * 9000):
            self.assertEqual(refusal(read_cases, text), NOTHING, text[:40])
        for thing in odd_things() + [("way", [0], []), b"way 0 []", [DOCS], Prickly()]:
            self.assertEqual(refusal(read_cases, thing), NOTHING)

    def test_any_cases_by_their_form(self):
        chance = random.Random(201)
        for k in range(200):
            cases = some_cases(chance)
            ahead = deep(cases)
            text = shown_cases(cases)
            self.assertIsNotNone(PATTERN.fullmatch(text))
            told = read_cases(text)
            self.assertEqual((told, cases), (ahead, ahead))
            self.assertTrue(is_askers_own(told, (cases,)))

    def test_told_cases_are_read_to_the_same(self):
        chance = random.Random(202)
        seen = 0
        for web in some_webs(202, 150) + [full_web(seed) for seed in range(3)]:
            purse = (3, 1) if len(web[1]) == 14 else some_ratio(chance)
            if most_at_a_time(web, purse) <= 3:
                told = best_taking(web, purse)
                if told[0] == "left":
                    seen += 1
                    self.assertEqual(read_cases(shown_cases(told[4])), told[4])
                    self.assertEqual(read_way(shown_way(told[2])), told[2])
        self.assertGreater(seen, 30)

    def test_of_the_diamond(self):
        told = best_taking(diamond(), (5, 6))[4]
        self.assertEqual(read_cases(shown_cases(told)), told)
        text = shown_cases(told)
        told[1].clear()
        told[2].clear()
        self.assertEqual(shown_cases(best_taking(diamond(), (5, 6))[4]), text)


if __name__ == "__main__":
    unittest.main()
