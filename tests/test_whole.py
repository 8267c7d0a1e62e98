"""What is promised over the whole program: each refusal, their order, and what is handed in and told."""

import random
import unittest

from farthestcut import (
    best, bends, cases, casetexts, changes, desk, errors, flowcases, flows, joins, keeper, longcases, longer, meeting,
    mixes, most, names, numbers, prices, ready, spreads, stays, stops, takings, treads, turning, values, ways, webs,
    webtexts,
)
from helper import (
    ALL_NAMES, Prickly, deep, described, diamond, full_web, is_askers_own, lists_and_dicts, refusal, snapshot, some_ratio,
    some_web, tie,
)

ZERO = (0, 1)
ADDS = [(1, 1), (2, 1), (1, 2), (7, 1), (1, 6)]
PURSE = (1, 2)
NAMES = ["w", "x", "y", "z"]
ORDER = [2, 0, 4, 1, 3]
MIX = [([0, 1], (1, 2)), ([2, 3], (1, 2))]
CASES = ("way", [0, 1], [(1, ("way", [0, 4, 3], []))])
PRICES = {"a": ZERO, "b": (1, 1), "c": (4, 3), "d": (3, 1)}
NO_FLOW = [ZERO] * 5
FLOW_CASES = ("flow", NO_FLOW, [])
OTHER = (["s", "t"], [tie("s", "t")], "s", "t")
TREADS = [(ZERO, (3, 1)), ((1, 2), (23, 6))]
CHANGE = ("length", 0, (2, 1))
PLAN = best.best_taking(diamond(), PURSE)

# Each function with arguments that are right, and by each argument the refusal of what is none, None where none is told.
FUNCTIONS = (
    (webs.look_at_web, (("NoWeb", diamond()),)),
    (takings.look_at_purse, (("NoPurse", PURSE),)),
    (takings.look_at_taking, (("NoWeb", diamond()), ("NoTaking", [0]))),
    (takings.worth_of, (("NoWeb", diamond()), ("NoTaking", [0, 4]))),
    (takings.is_within, (("NoWeb", diamond()), ("NoTaking", [0]), ("NoPurse", PURSE))),
    (takings.most_at_once, (("NoWeb", diamond()), ("NoPurse", PURSE))),
    (ways.look_at_way, (("NoWeb", diamond()), ("NoTaking", [2]), ("NoWay", [0, 1]))),
    (ways.length_of, (("NoWeb", diamond()), ("NoWay", [0, 1]))),
    (ways.places_of, (("NoWeb", diamond()), ("NoWay", [0, 1]))),
    (prices.lets_prices, (("NoWeb", diamond()), ("NoTaking", [2]), (None, PRICES))),
    (prices.least_way, (("NoWeb", diamond()), ("NoTaking", [2]))),
    (values.value_of, (("NoWeb", diamond()), ("NoTie", 1))),
    (values.values_all, (("NoWeb", diamond()),)),
    (values.most_valued, (("NoWeb", diamond()),)),
    (cases.claim_of_cases, (("NoWeb", diamond()), ("NoPurse", PURSE), ("NoCases", CASES))),
    (ready.are_enough, (("NoWeb", diamond()), ("NoPurse", PURSE), ("NoWay", [[0, 1], [2, 3]]))),
    (best.best_taking, (("NoWeb", diamond()), ("NoPurse", PURSE))),
    (treads.treads_of, (("NoWeb", diamond()), ("NoPurse", PURSE))),
    (treads.length_by, ((None, TREADS), ("NoPurse", PURSE))),
    (flows.look_at_flow, (("NoWeb", diamond()), ("NoRooms", ADDS), ("NoTaking", [0]), ("NoFlow", NO_FLOW))),
    (flows.amount_of, (("NoWeb", diamond()), (None, NO_FLOW))),
    (flows.room_of, (("NoWeb", diamond()), ("NoRooms", ADDS), ("NoTaking", [0]), ("NoSide", ["a", "c"]))),
    (most.most_flow, (("NoWeb", diamond()), ("NoRooms", ADDS), ("NoTaking", [0]))),
    (flowcases.claim_of_flow_cases, (("NoWeb", diamond()), ("NoRooms", ADDS), ("NoPurse", PURSE),
                                     ("NoCases", FLOW_CASES))),
    (stops.best_stop, (("NoWeb", diamond()), ("NoRooms", ADDS), ("NoPurse", PURSE))),
    (longer.longer_length, (("NoWeb", diamond()), ("NoAdds", ADDS), ("NoTaking", [0]), ("NoWay", [0, 1]))),
    (longer.lets_longer_prices, (("NoWeb", diamond()), ("NoAdds", ADDS), ("NoTaking", [0]), (None, PRICES))),
    (longer.least_longer, (("NoWeb", diamond()), ("NoAdds", ADDS), ("NoTaking", [0]))),
    (longcases.claim_of_longer, (("NoWeb", diamond()), ("NoAdds", ADDS), ("NoPurse", PURSE), ("NoCases", CASES))),
    (longcases.best_longer, (("NoWeb", diamond()), ("NoAdds", ADDS), ("NoPurse", PURSE))),
    (spreads.look_at_spread, (("NoWeb", diamond()), ("NoAdds", ADDS), ("NoPurse", PURSE), ("NoSpread", NO_FLOW))),
    (spreads.lets_spread_prices, (("NoWeb", diamond()), ("NoAdds", ADDS), ("NoPurse", PURSE), ("NoSpread", NO_FLOW),
                                  (None, PRICES))),
    (mixes.look_at_mix, (("NoWeb", diamond()), ("NoMix", MIX))),
    (mixes.load_of, (("NoWeb", diamond()), ("NoMix", MIX))),
    (mixes.claim_of_mix, (("NoWeb", diamond()), ("NoAdds", ADDS), ("NoPurse", PURSE), ("NoMix", MIX),
                          ("NoNumber", (1, 3)))),
    (meeting.meeting_of, (("NoWeb", diamond()), ("NoAdds", ADDS), ("NoPurse", PURSE))),
    (meeting.least_purse, (("NoWeb", diamond()), ("NoAdds", ADDS), ("NoNumber", (7, 2)))),
    (turning.renamed, (("NoWeb", diamond()), ("NoTurn", NAMES))),
    (turning.reordered, (("NoWeb", diamond()), ("NoTurn", ORDER))),
    (turning.turned, (("NoWeb", diamond()),)),
    (turning.scaled, (("NoWeb", diamond()), ("NoTurn", (1, 2)), ("NoTurn", (3, 1)))),
    (turning.prices_renamed, (("NoWeb", diamond()), ("NoTurn", NAMES), (None, PRICES))),
    (turning.taking_reordered, (("NoWeb", diamond()), ("NoTurn", ORDER), ("NoTaking", [0, 4]))),
    (turning.way_reordered, (("NoWeb", diamond()), ("NoTurn", ORDER), ("NoWay", [0, 1]))),
    (turning.cases_reordered, (("NoWeb", diamond()), ("NoTurn", ORDER), (None, CASES))),
    (turning.prices_scaled, ((None, PRICES), ("NoTurn", (1, 2)))),
    (turning.way_turned, (("NoWay", [0, 1]),)),
    (joins.webs_behind, (("NoWeb", diamond()), ("NoWeb", OTHER))),
    (joins.webs_beside, (("NoWeb", diamond()), ("NoWeb", OTHER))),
    (joins.treads_behind, ((None, TREADS), (None, TREADS), ("NoPurse", PURSE))),
    (joins.treads_beside, ((None, TREADS), (None, TREADS), ("NoPurse", PURSE))),
    (changes.changed, (("NoWeb", diamond()), ("NoChange", CHANGE))),
    (changes.carried_taking, (("NoWeb", diamond()), ("NoChange", CHANGE), ("NoTaking", [0, 4]))),
    (changes.carried_way, (("NoWeb", diamond()), ("NoChange", CHANGE), ("NoWay", [0, 1]))),
    (changes.carried_cases, (("NoWeb", diamond()), ("NoChange", CHANGE), (None, CASES))),
    (stays.what_stays, (("NoWeb", diamond()), ("NoPurse", PURSE), (None, PLAN), ("NoChange", CHANGE))),
    (keeper.Keeper, (("NoWeb", diamond()), ("NoPurse", PURSE))),
    (webtexts.shown_web, (("NoWeb", diamond()),)),
    (webtexts.read_web, (("NoText", webtexts.shown_web(diamond())),)),
    (webtexts.read_ratio, (("NoText", "1/2"),)),
    (casetexts.read_way, (("NoText", "0,1"),)),
    (casetexts.read_cases, (("NoText", "way 0,1 []"),)),
    (numbers.ratio, (("NoNumber", 1), ("NoNumber", 2))),
)


def all_things():
    return [deep([right for word, right in arguments]) for function, arguments in FUNCTIONS]


class TestOrder(unittest.TestCase):
    def test_right_arguments_are_let_by(self):
        for (function, arguments), things in zip(FUNCTIONS, all_things()):
            self.assertIsNone(refusal(function, *things), function.__name__)

    def test_the_first_wrong_argument_is_refused(self):
        for (function, arguments), things in zip(FUNCTIONS, all_things()):
            for number, (word, right) in enumerate(arguments):
                if word is not None:
                    for wrong in (None, Prickly(), {"x": 1}):
                        self.hold(function, arguments, things, number, word, wrong)

    def hold(self, function, arguments, things, number, word, wrong):
        """Wrong at this place alone, and there and at each later one that is looked at."""
        alone = things[:number] + [wrong] + things[number + 1:]
        later = [wrong if one[0] is not None else right for one, right in zip(arguments[number:], things[number:])]
        for some in (alone, things[:number] + later):
            told = refusal(function, *some)
            self.assertIsNotNone(told, function.__name__)
            self.assertEqual(told[0], word, function.__name__)

    def test_too_many_comes_last(self):
        web = (["a", "b"], [tie("a", "b")] * 4, "a", "b")
        rooms = [(1, 1)] * 4
        for function, things, word, wrong in (
            (best.best_taking, [web, (4, 1)], "NoPurse", [web, None]),
            (treads.treads_of, [web, (4, 1)], "NoPurse", [web, None]),
            (ready.are_enough, [web, (4, 1), []], "NoWay", [web, (4, 1), [None]]),
            (stops.best_stop, [web, rooms, (3, 1)], "NoRooms", [web, None, (3, 1)]),
            (longcases.best_longer, [web, rooms, (4, 1)], "NoAdds", [web, [None], (4, 1)]),
            (keeper.Keeper, [web, (4, 1)], "NoPurse", [web, (-1, 1)]),
        ):
            self.assertEqual(refusal(function, *things), ("TooMany",))
            self.assertEqual(refusal(function, *wrong)[0], word)

    def test_each_name_of_the_interface_is_there(self):
        there = {function.__name__ for function, arguments in FUNCTIONS}
        for module, words in (
            (numbers, "ratio plus minus times over is_less least_of most_of sum_of"),
            (names, "is_whole is_ratio is_name"), (webs, "is_tie look_at_web"), (treads, "treads_of length_by"),
            (webtexts, "shown_ratio read_ratio shown_web read_web"), (desk, "Desk"), (keeper, "Keeper"),
            (casetexts, "shown_way shown_cases read_way read_cases"), (bends, "bends_of"),
        ):
            for word in words.split():
                self.assertTrue(hasattr(module, word), word)
        self.assertGreater(len(there), 60)
        for word in ("change", "put_purse", "undo", "web", "purse", "plan", "told"):
            self.assertTrue(callable(getattr(keeper.Keeper, word)))


class TestRefusals(unittest.TestCase):
    def told(self):
        """What calls forth each refusal."""
        web = diamond()
        many = (["a", "b"], [tie("a", "b")] * 4, "a", "b")
        kept = keeper.Keeper(web, PURSE)
        flow = [(1, 1), ZERO, ZERO, ZERO, ZERO]
        return {
            "NoNumber": (numbers.over, (1, 1), ZERO), "NoPurse": (takings.look_at_purse, (-1, 1)),
            "NoTaking": (takings.worth_of, web, [3]), "NoTie": (values.value_of, web, 5),
            "TooMany": (best.best_taking, many, (4, 1)), "NoRooms": (most.most_flow, web, [], []),
            "NoSide": (flows.room_of, web, ADDS, [], ["b"]), "NoAdds": (meeting.meeting_of, web, ADDS[1:], ZERO),
            "NoTurn": (turning.scaled, web, ZERO, (1, 1)), "NoJoin": (joins.webs_behind, web, web),
            "NoChange": (changes.changed, web, ("gone", 5)), "NoDeed": (kept.undo,),
            "NoRow": (desk.Desk().say, "name"), "NoName": (desk.Desk().say, "way a"),
            "NoWeb": (webs.look_at_web, (["a", "a"], [], "a", "a")), "NoWay": (ways.length_of, web, [0, 0]),
            "NoFlow": (flows.look_at_flow, web, ADDS, [], [(2, 1)] * 5),
            "NoSpread": (spreads.look_at_spread, web, ADDS, ZERO, ADDS),
            "NoMix": (mixes.load_of, web, [([0, 1], (1, 2))]), "NoCases": (cases.claim_of_cases, web, PURSE, None),
            "Unbalanced": (flows.look_at_flow, web, ADDS, [], flow), "NoText": (webtexts.read_web, "place a"),
        }

    def test_each_of_the_twenty_two(self):
        told = self.told()
        self.assertEqual(sorted(told), sorted(ALL_NAMES))
        self.assertEqual(len(told), 22)
        for name, call in told.items():
            try:
                call[0](*call[1:])
                self.fail(name)
            except errors.CutError as e:
                self.assertEqual(described(e)[0], name)
                for other in ALL_NAMES:
                    self.assertEqual(isinstance(e, getattr(errors, other)), other == name)

    def test_with_their_fields(self):
        told = self.told()
        for name, fields in (("NoWeb", ("places", 1)), ("NoWay", (1,)), ("NoFlow", (0,)), ("NoSpread", (3,)),
                             ("NoMix", (None,)), ("NoCases", ([],)), ("Unbalanced", ("b",)), ("NoText", (1,))):
            self.assertEqual(refusal(*told[name]), (name,) + fields)


class TestHandedIn(unittest.TestCase):
    def test_asked_twice_alike_and_the_askers_own(self):
        for (function, arguments), things in zip(FUNCTIONS, all_things()):
            if function is keeper.Keeper:
                continue
            ahead = snapshot(things)
            told = function(*things)
            picture = snapshot(told)
            self.assertTrue(is_askers_own(told, things), function.__name__)
            for one in lists_and_dicts(told):
                one.clear()
            self.assertEqual(snapshot(things), ahead, function.__name__)
            again = function(*things)
            self.assertEqual(snapshot(again), picture, function.__name__)
            for one in lists_and_dicts(things):
                one.clear()
            self.assertEqual(snapshot(again), picture, function.__name__)

    def test_nothing_hangs_on_the_order_of_keys(self):
        turned = dict(reversed(list(PRICES.items())))
        self.assertIs(prices.lets_prices(diamond(), [], turned), prices.lets_prices(diamond(), [], PRICES))
        self.assertEqual(turning.prices_scaled(turned, (2, 1)), turning.prices_scaled(PRICES, (2, 1)))
        self.assertEqual(turning.prices_renamed(diamond(), NAMES, turned),
                         turning.prices_renamed(diamond(), NAMES, PRICES))
        plan = PLAN[:3] + (dict(reversed(list(PLAN[3].items()))),) + PLAN[4:]
        self.assertEqual(stays.what_stays(diamond(), PURSE, plan, CHANGE),
                         stays.what_stays(diamond(), PURSE, PLAN, CHANGE))


class TestTogether(unittest.TestCase):
    """Webs turned and joined have the best lengths that this makes of theirs, and what is written is read to the same."""

    def lengths(self, web, purse):
        told = best.best_taking(web, purse)
        return None if told[0] == "cut" else told[3][web[3]]

    def test_turned_webs(self):
        chance = random.Random(221)
        for k in range(60):
            web, purse = some_web(chance), some_ratio(chance)
            if takings.most_at_once(web, purse) <= 3:
                length = self.lengths(web, purse)
                order = chance.sample(range(len(web[1])), len(web[1]))
                for other in (turning.turned(web), turning.reordered(web, order),
                              turning.renamed(web, chance.sample(web[0], len(web[0])))):
                    self.assertEqual(self.lengths(other, purse), length)
                self.assertEqual(webtexts.read_web(webtexts.shown_web(web)), web)
                twice = turning.scaled(web, (3, 2), (2, 1))
                long = None if length is None else numbers.times(length, (3, 2))
                self.assertEqual(self.lengths(twice, numbers.times(purse, (2, 1))), long)

    def test_a_web_of_full_size(self):
        for seed in (4, 14, 16):
            web = full_web(seed, ((1, 1), (1, 1), None))
            told = best.best_taking(web, (3, 1))
            self.assertEqual((told[0], len(told[1])), ("left", 3))
            self.assertEqual(casetexts.read_cases(casetexts.shown_cases(told[4])), told[4])
            self.assertEqual(treads.length_by(treads.treads_of(web, (3, 1)), (3, 1)), told[3]["g"])
            self.assertEqual(self.lengths(turning.turned(web), (3, 1)), told[3]["g"])
            kept = keeper.Keeper(web, (3, 1))
            self.assertEqual(kept.plan(), told)
            row = webtexts.shown_web(web).replace("\n", "; ")
            said = desk.Desk()
            self.assertEqual(said.say("web w " + row), "ok")
            self.assertTrue(said.say("best w 3").endswith(" " + webtexts.shown_ratio(told[3]["g"])))
            self.assertEqual(said.say("why w"), casetexts.shown_cases(told[4]))
            self.assertEqual(said.say("claims w 3 " + said.say("why w")), webtexts.shown_ratio(told[3]["g"]))


if __name__ == "__main__":
    unittest.main()
