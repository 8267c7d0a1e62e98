import random
import unittest

from farthestcut.best import best_taking
from farthestcut.cases import claim_of_cases
from farthestcut.casetexts import shown_cases, shown_way
from farthestcut.desk import Desk
from farthestcut.prices import least_way
from farthestcut.treads import treads_of
from farthestcut.values import value_of
from farthestcut.webtexts import shown_ratio, shown_web
from helper import (
    Prickly, diamond, odd_things, refusal, some_change, some_ratio, some_webs, tie, with_change,
)

LONG = 10 ** 60 - 1
DIAMOND = ("place a; place b; place c; place d; tie a b one 1 1; tie b d one 2 1/2; tie a c one 3/2 2; "
           "tie d c both 5/2 -; tie c b both 1/3 1/3; first a; last d")
BESIDE = "place a; place b; tie a b one 1 1; tie a b one 2 1; tie a b one 5 1; first a; last b"
FOUR = "place a; place b; tie a b one 1 1; tie a b one 2 1; tie a b one 3 1; tie a b one 4 1; first a; last b"
SHUT = "place a; place b; tie b a one 1 1; first a; last b"


def desk_with(**texts):
    desk = Desk()
    for name, text in texts.items():
        assert desk.say(f"web {name} {text}") == "ok"
    return desk


def names_of(many):
    letters = "abcdefghijklmnopqrstuvwxyz"
    return [letters[k] + "x" for k in range(many)]


class DeskCase(unittest.TestCase):
    def says(self, desk, row, answer):
        self.assertEqual(desk.say(row), answer, row)

    def refuses(self, desk, row, *right):
        self.assertEqual(refusal(desk.say, row), right, row)

    def picture(self, desk):
        """All that the desk tells of what it keeps."""
        names = desk.say("names").split(" ")
        return [(name, desk.say(f"shown {name}"), desk.say(f"why {name}")) for name in names if name != "-"]


class TestRows(DeskCase):
    def test_webs_and_names(self):
        desk = Desk()
        self.says(desk, "names", "-")
        self.says(desk, "web mid " + DIAMOND, "ok")
        self.says(desk, "names", "mid")
        self.says(desk, "web z " + BESIDE, "ok")
        self.says(desk, "web abcdefgh " + SHUT, "ok")
        self.says(desk, "names", "abcdefgh mid z")
        self.says(desk, "shown mid", DIAMOND)
        self.says(desk, "shown z", BESIDE)
        self.says(desk, "web mid " + SHUT, "ok")
        self.says(desk, "shown mid", SHUT)
        self.says(desk, "drop mid", "ok")
        self.says(desk, "names", "abcdefgh z")
        self.refuses(desk, "shown mid", "NoName")
        self.refuses(desk, "drop mid", "NoName")
        for name in ("z", "abcdefgh"):
            self.says(desk, f"drop {name}", "ok")
        self.says(desk, "names", "-")

    def test_way(self):
        desk = desk_with(a=DIAMOND, b=BESIDE, c=SHUT)
        self.says(desk, "way a", "0,1 3")
        self.says(desk, "way b", "0 1")
        self.says(desk, "way c", "none")

    def test_value(self):
        desk = desk_with(a=DIAMOND, b=SHUT, c="place a; place b; tie a b both 1/2 -; first a; last b")
        self.says(desk, "value a 0", "5/6")
        self.says(desk, "value a 2", "0")
        self.says(desk, "value b 0", "none")
        self.says(desk, "value c 0", "cut")
        for number in range(5, 14):
            self.refuses(desk, f"value a {number}", "NoTie")

    def test_best_and_why(self):
        desk = desk_with(a=BESIDE, b=SHUT)
        self.says(desk, "why a", "-")
        self.says(desk, "best a 0", "- 1")
        self.says(desk, "why a", "way 0 []")
        self.says(desk, "best a 1", "0 2")
        self.says(desk, "why a", "way 0 [0: way 1 []]")
        self.says(desk, "best a 5/2", "0,1 5")
        self.says(desk, "why a", "way 0 [0: way 1 [1: way 2 []]]")
        self.says(desk, "best a 3", "0,1,2 cut")
        self.says(desk, "why a", "-")
        self.says(desk, "best b 0", "- cut")
        self.says(desk, "why b", "-")

    def test_treads(self):
        desk = desk_with(a=BESIDE, b=SHUT)
        self.says(desk, "treads a 3", "0 1, 1 2, 2 5, 3 none")
        self.says(desk, "treads a 3/2", "0 1, 1 2")
        self.says(desk, "treads a 0", "0 1")
        self.says(desk, "treads b 1", "0 none")

    def test_claims(self):
        desk = desk_with(a=BESIDE)
        self.says(desk, "claims a 0 way 2 []", "5")
        self.says(desk, "claims a 1 way 0 [0: way 2 []]", "5")
        self.says(desk, "claims a 1/2 way 1 []", "2")
        self.refuses(desk, "claims a 1 way 0 []", "NoCases", [])
        self.refuses(desk, "claims a 2 way 0 [0: way 1 []]", "NoCases", [0])
        self.refuses(desk, "claims a 1 way 13 []", "NoCases", [])
        self.refuses(desk, "claims a -1 way 0 []", "NoPurse")

    def test_changes(self):
        desk = desk_with(a=BESIDE)
        self.says(desk, "length a 0 7/2", "ok")
        self.says(desk, "worth a 1 -", "ok")
        self.says(desk, "worth a 2 1/9", "ok")
        self.says(desk, "shown a",
                  "place a; place b; tie a b one 7/2 1; tie a b one 2 -; tie a b one 5 1/9; first a; last b")
        self.says(desk, "gone a 1", "ok")
        self.says(desk, "shown a", "place a; place b; tie a b one 7/2 1; tie a b one 5 1/9; first a; last b")
        self.says(desk, "length a 0 0", "ok")
        self.says(desk, "way a", "0 0")
        for row in ("length a 2 1", "length a 13 1", "length a 0 -1", "worth a 2 1", "worth a 0 0", "worth a 0 -1/2",
                    "gone a 2", "gone a 13"):
            self.refuses(desk, row, "NoChange")
        self.says(desk, "gone a 0", "ok")
        self.says(desk, "gone a 0", "ok")
        self.says(desk, "shown a", "place a; place b; first a; last b")

    def test_why_is_forgotten(self):
        for row in ("web a " + BESIDE, "length a 0 1", "length a 2 9", "worth a 0 1", "worth a 0 -", "gone a 2"):
            desk = desk_with(a=BESIDE, b=BESIDE)
            desk.say("best a 1")
            desk.say("best b 1")
            self.says(desk, "why a", "way 0 [0: way 1 []]")
            self.says(desk, row, "ok")
            self.says(desk, "why a", "-")
            self.says(desk, "why b", "way 0 [0: way 1 []]")
        desk = desk_with(a=BESIDE)
        desk.say("best a 1")
        desk.say("drop a")
        self.refuses(desk, "why a", "NoName")
        desk.say("web a " + BESIDE)
        self.says(desk, "why a", "-")

    def test_why_stays_over_what_is_refused_and_over_other_rows(self):
        desk = desk_with(a=FOUR)
        desk.say("best a 1")
        for row in ("best a 4", "best a -1", "web a x", "length a 9 1", "worth a 0 0", "gone a 4", "best a", "drop a a"):
            self.assertIsNotNone(refusal(desk.say, row))
            self.says(desk, "why a", "way 0 [0: way 1 []]")
        for row in ("way a", "value a 0", "treads a 2", "shown a", "names", "claims a 0 way 2 []", "web b " + BESIDE):
            desk.say(row)
            self.says(desk, "why a", "way 0 [0: way 1 []]")

    def test_as_the_stages_tell(self):
        chance = random.Random(211)
        for web in some_webs(211, 60):
            desk = Desk()
            self.says(desk, "web w " + shown_web(web).replace("\n", "; "), "ok")
            for k in range(3):
                self.hold(desk, web, some_ratio(chance))
                change = some_change(chance, web)
                if change[0] != "tie":
                    last = "" if change[0] == "gone" else " -" if change[2] is None else " " + shown_ratio(change[2])
                    self.says(desk, f"{change[0]} w {change[1]}{last}", "ok")
                    web = with_change(web, change)

    def hold(self, desk, web, purse):
        self.says(desk, "shown w", shown_web(web).replace("\n", "; "))
        way, length, prices = least_way(web, [])
        self.says(desk, "way w", "none" if way is None else f"{shown_way(way)} {shown_ratio(length)}")
        for number in range(len(web[1])):
            value = value_of(web, number)
            self.says(desk, f"value w {number}", value if isinstance(value, str) else shown_ratio(value))
        text = shown_ratio(purse)
        right = refusal(best_taking, web, purse)
        if right is not None:
            self.refuses(desk, f"best w {text}", *right)
            self.refuses(desk, f"treads w {text}", *right)
            return
        best = best_taking(web, purse)
        taking = ",".join(str(number) for number in best[1]) or "-"
        self.says(desk, f"best w {text}", f"{taking} {'cut' if best[0] == 'cut' else shown_ratio(best[3][web[3]])}")
        self.says(desk, "why w", "-" if best[0] == "cut" else shown_cases(best[4]))
        self.says(desk, f"treads w {text}", ", ".join(
            f"{shown_ratio(worth)} {'none' if long is None else shown_ratio(long)}"
            for worth, long in treads_of(web, purse)))
        if best[0] == "left":
            claim = claim_of_cases(web, purse, best[4])
            self.says(desk, f"claims w {text} {shown_cases(best[4])}", shown_ratio(claim))

    def test_long_numbers(self):
        text = f"place a; place b; tie a b one {LONG}/{LONG - 1} 1/{LONG}; first a; last b"
        desk = desk_with(a=text)
        self.says(desk, "shown a", text)
        self.says(desk, "way a", f"0 {LONG}/{LONG - 1}")
        self.says(desk, f"treads a 1/{LONG}", f"0 {LONG}/{LONG - 1}, 1/{LONG} none")
        self.refuses(desk, f"best a {LONG + 1}", "NoRow")
        self.refuses(desk, f"length a 0 1/{LONG + 1}", "NoRow")
        ties = "; ".join(f"tie a b both 1 1/{LONG - k}" for k in (0, 2))
        desk = desk_with(a=f"place a; place b; {ties}; first a; last b")
        self.says(desk, "treads a 1", f"0 1, {2 * LONG - 2}/{LONG * (LONG - 2)} none")


class TestRefusals(DeskCase):
    RIGHT = ("web w " + SHUT, "shown w", "drop w", "names", "way w", "value w 0", "best w 1", "why w", "treads w 1",
             "claims w 1 way 0 []", "length w 0 1", "worth w 0 1", "gone w 0")

    def test_words_too_few_or_too_many(self):
        desk = desk_with(a=BESIDE)
        ahead = self.picture(desk)
        for right in self.RIGHT:
            words = right.split(" ")
            rows = {right + " ", right + " x", " " + right, right + "\n", "\n" + right, right.replace(" ", "\n", 1),
                    right + " -", right + " 1", right.replace(" ", "  ", 1), right.replace(" ", "\t", 1), right.upper(),
                    words[0], words[0] + " ", words[0] + "s" + right[len(words[0]):]}
            rows.update(" ".join(words[:many]) for many in range(len(words)))
            rows.update(" ".join(words[:many]) + " " for many in range(len(words)))
            rows.discard("names")
            if words[0] == "web":
                continue
            for row in rows:
                self.refuses(desk, row, "NoRow")
        self.assertEqual(self.picture(desk), ahead)

    def test_words_that_are_not_as_told(self):
        desk = desk_with(a=BESIDE)
        for name in ("A", "", "abcdefghi", "a1", "-", "a\t", "0"):
            for row in ("shown {}", "drop {}", "way {}", "why {}", "value {} 0", "best {} 1", "treads {} 1", "gone {} 0",
                        "length {} 0 1", "worth {} 0 -", "claims {} 1 way 0 []", "web {} " + BESIDE):
                self.refuses(desk, row.replace("{}", name), "NoRow")
        for number in ("14", "-1", "-0", "00", "01", "+1", "1/2", "", "a", "-", "99", "1.0", "1\t"):
            for row in ("value a {}", "gone a {}", "length a {} 1", "worth a {} -"):
                self.refuses(desk, row.replace("{}", number), "NoRow")
        for one in ("", "a", "01", "-0", "+1", "2/4", "1/1", "1/0", "1/-2", "1.5", "--1", "1/2/3", "1\t", str(LONG + 1)):
            for row in ("best a {}", "treads a {}", "length a 0 {}", "worth a 0 {}", "claims a {} way 0 []"):
                self.refuses(desk, row.replace("{}", one), "NoRow")
        for row in ("best a -", "treads a -", "length a 0 -", "claims a - way 0 []"):
            self.refuses(desk, row, "NoRow")

    def test_cases_that_write_none(self):
        desk = desk_with(a=BESIDE)
        deep = "way 0 [0: " * 4 + "way 0 []" + "]" * 4
        for text in ("", " way 0 []", "way 0 [] ", "way 0", "way 14 []", "way 0 [0:way 1 []]", "x", "-", deep,
                     "way 0 [0: " * 3000, "way 0 []\t"):
            self.refuses(desk, "claims a 1 " + text, "NoRow")
            self.refuses(desk, "claims none 1 " + text, "NoRow")

    def test_rows_of_none(self):
        desk = desk_with(a=BESIDE)
        for row in ("", " ", "\n", "x", "web", "web ", "web a", "web a ", "web  " + BESIDE, "name", "names ", "names a",
                    "Web a " + BESIDE, "web a " + BESIDE.replace("; ", "\n"), "web a x\n", "tie a b",
                    "web\ta " + BESIDE, "place a"):
            self.refuses(desk, row, "NoRow")
        for thing in odd_things() + [b"names", ["names"], ("names",), Prickly()]:
            self.assertEqual(refusal(desk.say, thing), ("NoRow",))

    def test_no_name_behind_no_row(self):
        desk = desk_with(a=BESIDE)
        for row in self.RIGHT:
            if row.split(" ")[0] not in ("web", "names"):
                self.refuses(desk, row, "NoName")
                self.refuses(Desk(), row, "NoName")
        for row in ("best w -1", "best w 99", "value w 13", "length w 13 -1", "gone w 13", "claims w -1 way 13 []"):
            self.refuses(desk, row, "NoName")
        for row in ("best w x", "value w 14", "length w 0 -", "claims w 1 way 0"):
            self.refuses(desk, row, "NoRow")

    def test_as_the_stages_refuse(self):
        desk = desk_with(a=FOUR)
        ahead = self.picture(desk)
        for row, right in (("best a 4", "TooMany"), ("treads a 4", "TooMany"), ("best a -1", "NoPurse"),
                           ("treads a -1/2", "NoPurse"), ("value a 4", "NoTie"), ("length a 4 1", "NoChange"),
                           ("length a 0 -1", "NoChange"), ("worth a 0 0", "NoChange"), ("gone a 4", "NoChange")):
            self.refuses(desk, row, right)
        self.assertEqual(self.picture(desk), ahead)

    def test_texts_of_webs(self):
        desk = desk_with(a=BESIDE)
        ahead = self.picture(desk)
        rows = BESIDE.split("; ")
        for text, row in (
            ("x", 0), (" ", 0), ("a; place b", 0), (" " + BESIDE, 0), (BESIDE + " ", 6), (BESIDE + "; ", 7), (BESIDE + ";", 6), ("; ", 0),
            ("place a", 1), ("; ".join(rows[:4]), 4), ("place a; place a", 1), (BESIDE.replace("; ", ";"), 0),
            (BESIDE.replace("; ", ";  "), 1), (BESIDE.replace("first a", "first c"), 5), ("place a\t; place b", 0),
            (BESIDE.replace("last b", "last a"), 6), (BESIDE.replace("one 2 1", "one 2 0"), 3),
            (BESIDE.replace("one 2 1", f"one {LONG + 1} 1"), 3), (BESIDE + "; last b", 7),
        ):
            for name in ("a", "b"):
                self.refuses(desk, f"web {name} {text}", "NoText", row)
        self.assertEqual(self.picture(desk), ahead)

    def test_the_twenty_first_name(self):
        desk = Desk()
        names = names_of(21)
        for name in names[:20]:
            self.says(desk, f"web {name} {SHUT}", "ok")
        ahead = self.picture(desk)
        self.refuses(desk, f"web {names[20]} {SHUT}", "TooMany")
        self.refuses(desk, f"web {names[20]} x", "NoText", 0)
        self.refuses(desk, f"web {names[20]} ", "NoRow")
        self.assertEqual(self.picture(desk), ahead)
        self.says(desk, f"web {names[7]} {BESIDE}", "ok")
        self.says(desk, f"shown {names[7]}", BESIDE)
        self.says(desk, f"drop {names[3]}", "ok")
        self.says(desk, f"web {names[20]} {SHUT}", "ok")
        self.refuses(desk, f"web {names[3]} {SHUT}", "TooMany")
        self.says(desk, "names", " ".join(names[:3] + names[4:]))

    def test_two_desks_share_nothing(self):
        one, other = desk_with(a=BESIDE), desk_with(a=DIAMOND)
        one.say("best a 1")
        self.says(other, "why a", "-")
        one.say("drop a")
        self.says(other, "shown a", DIAMOND)
        self.says(one, "names", "-")

    def test_asked_twice_alike(self):
        desk = desk_with(a=DIAMOND, b=BESIDE)
        rows = ("names", "shown a", "way a", "value a 1", "best a 1/2", "why a", "treads a 1", "claims b 0 way 2 []")
        self.assertEqual([desk.say(row) for row in rows], [desk.say(row) for row in rows])
        self.assertEqual(shown_web(diamond()).replace("\n", "; "), DIAMOND)
        self.assertEqual(tie("a", "b"), diamond()[1][0])


if __name__ == "__main__":
    unittest.main()
