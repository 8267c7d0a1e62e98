import itertools
import random
import re
import unittest
from fractions import Fraction

from farthestcut.webs import look_at_web
from farthestcut.webtexts import read_ratio, read_web, shown_ratio, shown_web
from helper import (
    BAD_WEB, WRONG_WEBS, Prickly, deep, diamond, full_web, is_askers_own, odd_things, pair, refusal, some_webs, tie,
)

LONG = 10 ** 60 - 1
WHOLE = r"(?:0|-?[1-9][0-9]{0,59})"
RATIO = re.compile(rf"({WHOLE})(?:/([1-9][0-9]{{0,59}}))?")
NAME = "[a-z]{1,8}"
TEXT = """place a
place b
place c
place d
tie a b one 1 1
tie b d one 2 1/2
tie a c one 3/2 2
tie d c both 5/2 -
tie c b both 1/3 1/3
first a
last d"""


def ratio_written(text):
    """The fraction that a text writes, by the document's words, or None."""
    found = RATIO.fullmatch(text)
    if not found:
        return None
    told = (int(found[1]), int(found[2] or 1))
    if found[2] == "1" or Fraction(*told) != 0 and pair(Fraction(*told)) != told or told[0] == 0 and told[1] != 1:
        return None
    return told


def web_written(rows):
    """The web that rows write, by the document's words, or None."""
    places, ties, ends, stage = [], [], {}, 0
    for row in rows:
        words = row.split(" ")
        order = ("place", "tie", "first", "last").index(words[0]) if words[0] in ("place", "tie", "first", "last") else -1
        if order < stage or words[0] in ends:
            return None
        stage = order
        if words[0] == "tie" and len(words) == 6:
            worth = None if words[5] == "-" else ratio_written(words[5]) or 0
            ties.append((words[1], words[2], words[3], ratio_written(words[4]), worth))
        elif words[0] != "tie" and len(words) == 2 and re.fullmatch(NAME, words[1]):
            if words[0] == "place":
                places.append(words[1])
            else:
                ends[words[0]] = words[1]
        else:
            return None
    web = (places, ties, ends.get("first"), ends.get("last"))
    return None if refusal(look_at_web, web) else web


def begins_some(rows):
    """Whether rows are the first rows of some web's writing: tried with rows behind them."""
    names = [row[6:] for row in rows if row.startswith("place ")]
    fresh = [[], ["place yyyyyyyy"], ["place yyyyyyyy", "place zzzzzzzz"]]
    both = names + ["yyyyyyyy", "zzzzzzzz"]
    ends = [[], *([f"last {last}"] for last in both)]
    ends += [[f"first {first}", f"last {last}"] for first, last in itertools.permutations(both, 2)]
    return any(web_written(rows + more + end) for more in fresh for end in ends)


def expected(text):
    """The row of the refusal, or the web."""
    rows = text.split("\n")
    web = web_written(rows)
    if web is not None:
        return web
    for number in range(len(rows)):
        if not begins_some(rows[:number + 1]):
            return number
    return len(rows)


class TestRatio(unittest.TestCase):
    RIGHT = ("0", "1", "-1", "7", "10", "-10", "1/2", "-1/2", "3/2", "10/3", "-20/7", "9" * 60, "-" + "9" * 60,
             "1/" + "9" * 60, "8" * 60 + "/" + "9" * 59 + "7", "1" + "0" * 59)
    WRONG = ("", "-", "/", "00", "01", "-0", "-01", "+1", "+0", " 1", "1 ", "1 /2", "1/ 2", "1/1", "2/4", "0/1", "0/2", "1/0",
             "0/0", "1/-2", "1/+2", "-1/-2", "1/02", "01/2", "1/", "/2", "1/2/3", "1//2", "--1", "1-", "1.0", "1e2", "1_0",
             "0x1", "a", "1a", "1\n", "\n1", "\t1", "None", "-1/1", "10/10", "6/4", "-6/4", "9" * 61, "-" + "9" * 61,
             "1/" + "1" * 61, "1" + "0" * 60, "0" * 60, "0" * 61, "1" * 5000, "1/" + "3" * 5000, "(1, 2)")

    def test_read(self):
        for text in self.RIGHT:
            told = read_ratio(text)
            top, bottom = (text.split("/") + ["1"])[:2]
            self.assertEqual(told, (int(top), int(bottom)))
            self.assertEqual([one.__class__ for one in told], [int, int])
            self.assertIs(told.__class__, tuple)
            self.assertEqual(shown_ratio(told), text)

    def test_what_writes_none(self):
        for text in self.WRONG:
            self.assertEqual(refusal(read_ratio, text), ("NoText", 0), text)

    def test_of_anything(self):
        for thing in odd_things() + [(1, 2), [1, 2], 1, b"1", Prickly()]:
            self.assertEqual(refusal(read_ratio, thing), ("NoText", 0))

    def test_longer_ones_are_written(self):
        for many in (61, 300, 4000):
            top, bottom = 10 ** (many - 1) + 7, 10 ** (many - 1) + 6
            self.assertEqual(shown_ratio((top, 1)), str(top))
            self.assertEqual(shown_ratio((-top, bottom)), f"-{top}/{bottom}")
            self.assertEqual(refusal(read_ratio, shown_ratio((top, 1))), ("NoText", 0))
            self.assertEqual(refusal(read_ratio, shown_ratio((1, bottom))), ("NoText", 0))

    def test_every_short_text(self):
        for many in range(1, 5):
            for signs in itertools.product("0127-/+ ", repeat=many):
                text = "".join(signs)
                right = ratio_written(text)
                if right is None:
                    self.assertEqual(refusal(read_ratio, text), ("NoText", 0), text)
                else:
                    self.assertEqual(read_ratio(text), right, text)

    def test_any_fraction_is_read_to_the_same(self):
        chance = random.Random(191)
        for k in range(300):
            one = pair(Fraction(chance.randint(-10 ** chance.randint(1, 60) + 1, LONG), chance.randint(1, LONG)))
            self.assertEqual(read_ratio(shown_ratio(one)), one)


class TestWeb(unittest.TestCase):
    def row(self, *rows):
        return refusal(read_web, "\n".join(rows))

    def test_of_the_diamond(self):
        self.assertEqual(shown_web(diamond()), TEXT)
        self.assertEqual(read_web(TEXT), diamond())
        self.assertEqual(shown_web((["b", "a"], [], "a", "b")), "place b\nplace a\nfirst a\nlast b")

    def test_read_to_the_same(self):
        webs = some_webs(192, 100, 7, 14) + [full_web(seed, ((1, 1), None, (LONG, LONG - 1))) for seed in range(5)]
        webs.append((["abcdefgh", "z"], [tie("z", "abcdefgh", "one", (0, 1), (1, LONG)),
                                         tie("z", "abcdefgh", "both", (LONG, 2), None)] * 7, "z", "abcdefgh"))
        for web in webs:
            ahead = deep(web)
            text = shown_web(web)
            told = read_web(text)
            self.assertEqual((told, web), (ahead, ahead))
            self.assertTrue(is_askers_own(told, (web,)))
            self.assertIs(told.__class__, tuple)
            self.assertEqual(shown_web(told), text)
            self.assertEqual(web_written(text.split("\n")), web)

    def test_longer_numbers_are_written_and_not_read(self):
        web = (["a", "b"], [tie("a", "b", "one", (10 ** 60, 1), (1, 10 ** 60))], "a", "b")
        self.assertEqual(shown_web(web).split("\n")[2], f"tie a b one 1{'0' * 60} 1/1{'0' * 60}")
        self.assertEqual(refusal(read_web, shown_web(web)), ("NoText", 2))

    def test_rows_that_cannot_stand(self):
        two = ("place a", "place b")
        for number, rows in (
            (0, ("",)), (0, ("place",)), (0, ("place ",)), (0, ("place A",)), (0, ("place a ",)), (0, (" place a",)),
            (0, ("place  a",)), (0, ("place a b",)), (0, ("place\ta",)), (0, ("Place a",)), (0, ("place abcdefghi",)),
            (0, ("tie a b one 1 1",)), (0, ("first a",)), (0, ("last a",)), (0, ("x",)), (0, ("placea",)),
            (1, ("place a", "place a")), (1, ("place a", "first a")), (1, ("place a", "tie a b one 1 1")),
            (1, ("place a", "tie a a one 1 1")), (1, ("place a", "last a")), (1, ("place a", "")),
            (2, two + ("place a",)), (2, two + ("last a",)), (2, two + ("first c",)), (2, two + ("first",)),
            (2, two + ("first a b",)), (2, two + ("first a ",)), (2, two + ("",)), (2, two + ("tie a c one 1 1",)),
            (2, two + ("tie c a one 1 1",)), (2, two + ("tie a a one 1 1",)), (2, two + ("tie a b one 1",)),
            (2, two + ("tie a b one 1 1 1",)), (2, two + ("tie a b two 1 1",)), (2, two + ("tie a b one -1 1",)),
            (2, two + ("tie a b one 1 0",)), (2, two + ("tie a b one 1 -1",)), (2, two + ("tie a b one - 1",)),
            (2, two + ("tie a b one 2/4 1",)), (2, two + ("tie a b one 1 2/2",)), (2, two + ("tie a b one 01 1",)),
            (2, two + ("tie a  b one 1 1",)), (2, two + ("tie a b one 1 1 ",)), (2, two + ("tie a b one 1\t1",)),
            (2, two + ("tie a b one 1 None",)), (2, two + ("tie a b one 1 --",)), (2, two + ("tie a b one 1 ",)),
            (2, two + (f"tie a b one {LONG + 1} 1",)), (2, two + (f"tie a b one 1 1/{LONG + 1}",)),
            (3, two + ("tie a b one 1 -", "place c")), (3, two + ("tie a b one 1 -", "last b")),
            (3, two + ("first a", "last a")), (3, two + ("first a", "first b")), (3, two + ("first a", "place c")),
            (3, two + ("first a", "tie a b one 1 1")), (3, two + ("first a", "")), (3, two + ("first a", "last c")),
            (3, two + ("first a", "last b ")), (4, two + ("first a", "last b", "")),
            (4, two + ("first a", "last b", "last b")), (4, two + ("first a", "last b", "place c")),
        ):
            self.assertEqual(self.row(*rows), ("NoText", number), rows)
            self.assertEqual(expected("\n".join(rows)), number, rows)
            self.assertEqual(self.row(*rows, "x"), ("NoText", number), rows)
            self.assertEqual(self.row(*rows, "first a", "last b"), ("NoText", number), rows)

    def test_rows_that_are_missing_at_the_end(self):
        rows = TEXT.split("\n")
        for many in range(1, len(rows)):
            self.assertEqual(self.row(*rows[:many]), ("NoText", many))
            self.assertEqual(self.row(*rows[:many], ""), ("NoText", many))
        self.assertEqual(self.row(*rows, ""), ("NoText", len(rows)))
        self.assertEqual(self.row("place a"), ("NoText", 1))

    def test_too_many(self):
        seven = [f"place {name}" for name in "abcdefg"]
        ends = ["first a", "last g"]
        self.assertEqual(len(read_web("\n".join(seven + ends))[0]), 7)
        self.assertEqual(self.row(*seven, "place h", *ends), ("NoText", 7))
        ties = ["tie a g both 0 1/7"] * 14
        self.assertEqual(len(read_web("\n".join(seven + ties + ends))[1]), 14)
        self.assertEqual(self.row(*seven, *ties, ties[0], *ends), ("NoText", 21))
        self.assertEqual(self.row(*seven, *ties), ("NoText", 21))

    def test_of_anything(self):
        for thing in odd_things() + [b"place a", ["place a", "place b", "first a", "last b"], diamond(), Prickly()]:
            self.assertEqual(refusal(read_web, thing), ("NoText", 0))
        for web in WRONG_WEBS:
            self.assertEqual(refusal(shown_web, web), BAD_WEB)

    def test_other_ends_of_rows(self):
        self.assertEqual(refusal(read_web, TEXT.replace("\n", "; ")), ("NoText", 0))
        self.assertEqual(refusal(read_web, "\n" + TEXT), ("NoText", 0))
        self.assertEqual(refusal(read_web, TEXT.replace("\n", "\n\n")), ("NoText", 1))
        self.assertEqual(refusal(read_web, TEXT.replace("\n", "\t\n")), ("NoText", 0))

    def test_texts_spoilt_by_chance(self):
        chance = random.Random(193)
        seen = {"read": 0, "refused": 0}
        for web in some_webs(193, 60, 4, 4):
            for k in range(12):
                text = self.spoilt(chance, shown_web(web))
                right = expected(text)
                if isinstance(right, int):
                    seen["refused"] += 1
                    self.assertEqual(refusal(read_web, text), ("NoText", right), text)
                else:
                    seen["read"] += 1
                    self.assertEqual(read_web(text), right, text)
        self.assertGreater(min(seen.values()), 30, seen)

    def spoilt(self, chance, text):
        rows = text.split("\n")
        way = chance.randrange(6)
        at, other = chance.randrange(len(rows)), chance.randrange(len(rows))
        if way == 0:
            rows.pop(at)
        elif way == 1:
            rows.insert(at, rows[other])
        elif way == 2:
            rows[at], rows[other] = rows[other], rows[at]
        elif way == 3:
            words = rows[at].split(" ")
            words[chance.randrange(len(words))] = chance.choice(("a", "bb", "ccc", "0", "1/2", "-", "one", "both", "-1", ""))
            rows[at] = " ".join(words)
        text = "\n".join(rows)
        if way >= 4:
            place = chance.randrange(len(text))
            text = text[:place] + chance.choice(("", "a", "0", "-", "/", " ", "\n", "\t")) + text[place + way - 4:]
        return text


if __name__ == "__main__":
    unittest.main()
