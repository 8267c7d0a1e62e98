"""What several tests need: refusals looked at whole, things of many kinds, webs, and every way by brute force."""

import copy
import itertools
import random
from fractions import Fraction

from farthestcut import errors

PLAIN = (
    "NoNumber", "NoPurse", "NoTaking", "NoTie", "TooMany", "NoRooms", "NoSide", "NoAdds",
    "NoTurn", "NoJoin", "NoChange", "NoDeed", "NoRow", "NoName",
)
FIELDS = {
    "NoWeb": ("part", "number"), "NoWay": ("at",), "NoFlow": ("at",), "NoSpread": ("at",), "NoMix": ("at",),
    "NoCases": ("path",), "Unbalanced": ("place",), "NoText": ("row",),
}
ALL_NAMES = PLAIN + tuple(FIELDS)


class Prickly:
    """Refuses to be compared, counted, hashed or asked for its truth."""

    def fail(self, *others):
        raise AssertionError("a thing of another kind was asked more than its kind")

    __eq__ = __ne__ = __lt__ = __le__ = __gt__ = __ge__ = fail
    __len__ = __hash__ = __bool__ = __iter__ = __getitem__ = __contains__ = fail


def odd_things():
    """Things of many kinds, new ones at each call: none is a web, a taking, a purse, a way, prices or cases."""
    ring = []
    ring.append(ring)
    return [
        None, True, False, 0, 1, -1, 10 ** 60, "", "a", "way", "one", (), (0,), (1, 2, 3), (None, None), ("a", 1),
        {}, {"a": 1}, {1: 2}, set(), {1}, frozenset(), b"a", object(), len, int, Prickly(), ring, ("way", ring, ring),
        [None], [True], ["a"], [[]], [()], [-1], [99], [Prickly()], (True, 1), (1, True), (1, 0), (2, 2), (0, 2),
        (1, -1), (-1, 2), [1, 0],
    ]


def refusal(function, *things):
    """(class name, fields) of what the call refuses with, None where it doesn't; what is handed in must stay."""
    ahead = snapshot(things)
    try:
        function(*things)
    except errors.CutError as e:
        assert snapshot(things) == ahead, "what was handed in is changed"
        return described(e)
    assert snapshot(things) == ahead, "what was handed in is changed"
    return None


def described(e):
    name = e.__class__.__name__
    assert e.__class__ is getattr(errors, name)
    assert isinstance(e, ValueError)
    assert e.__class__.__mro__[1] is errors.CutError
    return (name,) + tuple(getattr(e, field) for field in FIELDS.get(name, ()))


def snapshot(thing, above=()):
    """A picture of a thing that tells kinds apart, and ends where a thing holds itself."""
    if isinstance(thing, (list, tuple)):
        if id(thing) in above:
            return "round"
        return (thing.__class__.__name__, tuple(snapshot(one, above + (id(thing),)) for one in thing))
    if isinstance(thing, dict):
        return ("dict", tuple((snapshot(key), snapshot(thing[key], above)) for key in thing))
    if isinstance(thing, (int, str, bytes, set, frozenset)) or thing is None:
        return (thing.__class__.__name__, repr(thing))
    return ("other", id(thing))


def lists_and_dicts(thing):
    """Each list and dict within a thing, once for each place where it stands."""
    found = []
    if isinstance(thing, (list, dict)):
        found.append(thing)
    if isinstance(thing, (list, tuple)):
        for one in thing:
            found.extend(lists_and_dicts(one))
    if isinstance(thing, dict):
        for one in thing.values():
            found.extend(lists_and_dicts(one))
    return found


def is_askers_own(told, handed_in=()):
    """Whether no list or dict stands in two places of what is told, and none of what was handed in."""
    numbers = [id(one) for one in lists_and_dicts(told)]
    others = {id(one) for one in lists_and_dicts(list(handed_in))}
    return len(set(numbers)) == len(numbers) and not others.intersection(numbers)


def tie(one, other, word="one", length=(1, 1), worth=(1, 1)):
    return (one, other, word, length, worth)


def diamond():
    """a to d by b (0, 1) or by c (2, 3), and a crossing tie of both (4)."""
    return (
        ["a", "b", "c", "d"],
        [
            tie("a", "b", "one", (1, 1), (1, 1)),
            tie("b", "d", "one", (2, 1), (1, 2)),
            tie("a", "c", "one", (3, 2), (2, 1)),
            tie("d", "c", "both", (5, 2), None),
            tie("c", "b", "both", (1, 3), (1, 3)),
        ],
        "a",
        "d",
    )


def some_ratio(chance, least=0):
    value = Fraction(chance.randint(least, 6), chance.choice((1, 1, 1, 2, 3)))
    return (value.numerator, value.denominator)


def some_web(chance, most_places=5, most_ties=8):
    places = ["a", "bb", "ccc", "dddd", "eeeee", "ffffff", "ggggggg"][:chance.randint(2, most_places)]
    chance.shuffle(places)
    ties = []
    for count in range(chance.randint(0, most_ties)):
        ends = chance.sample(places, 2)
        worth = None if chance.random() < 0.2 else some_ratio(chance, 1)
        ties.append((ends[0], ends[1], chance.choice(("one", "both")), some_ratio(chance), worth))
    ends = chance.sample(places, 2)
    return (places, ties, ends[0], ends[1])


def some_webs(seed, count, most_places=5, most_ties=8):
    chance = random.Random(seed)
    return [some_web(chance, most_places, most_ties) for k in range(count)]


def all_ways(web, taken=()):
    """Each way, by going on from first in every manner."""
    places, ties, first, last = web
    found = []
    waiting = [([], [first])]
    while waiting:
        way, been = waiting.pop()
        if been[-1] == last:
            found.append(way)
            continue
        for number, (one, other, word, length, worth) in enumerate(ties):
            if number in taken:
                continue
            if one == been[-1] and other not in been:
                waiting.append((way + [number], been + [other]))
            if word == "both" and other == been[-1] and one not in been:
                waiting.append((way + [number], been + [one]))
    return sorted(found)


def size(web, way):
    return sum((Fraction(*web[1][number][3]) for number in way), Fraction(0))


def least_size(web, taken=()):
    """The least way's length as a Fraction, or None."""
    return min((size(web, way) for way in all_ways(web, taken)), default=None)


def pair(value):
    """A Fraction as the program's tuple; None stays."""
    return None if value is None else (value.numerator, value.denominator)


def all_takings(web, purse):
    """Each taking within the purse."""
    free = [number for number, one in enumerate(web[1]) if one[4] is not None]
    found = []
    for many in range(len(free) + 1):
        for taking in itertools.combinations(free, many):
            if sum((Fraction(*web[1][number][4]) for number in taking), Fraction(0)) <= Fraction(*purse):
                found.append(list(taking))
    return found


def deep(thing):
    return copy.deepcopy(thing)


WRONG_WEBS = (None, (), ["a"], 0, "web")
WRONG_PURSES = (None, (-1, 1), (2, 4), (0, 2), (1, 0), 1, True, [1, 1], "1", (True, 1), (1,), ())
WRONG_NUMBERS = WRONG_PURSES
WRONG_TAKINGS = (None, [3], [1, 0], [True], (0,), [5], [0, 0], [-1], {})
BAD_WEB = ("NoWeb", "web", None)


def worth(web, taking):
    return sum((Fraction(*web[1][number][4]) for number in taking), Fraction(0))


def most_at_a_time(web, purse):
    return max(len(taking) for taking in all_takings(web, purse))


def lengths_left(web, purse):
    """Of each taking within the purse the least length that it leaves, or None."""
    ways = [(set(way), size(web, way)) for way in all_ways(web)]
    told = {}
    for taking in all_takings(web, purse):
        told[tuple(taking)] = min((long for way, long in ways if not way.intersection(taking)), default=None)
    return told


def greatest(lengths):
    """The greatest, None above all others."""
    return None if None in lengths else max(lengths)


def leads_out(one, side):
    if one[2] == "one":
        return one[0] in side and one[1] not in side
    return (one[0] in side) != (one[1] in side)


def all_sides(web):
    """Each list of places in the web's order with first, without last."""
    places, ties, first, last = web
    found = []
    for many in range(len(places)):
        for side in itertools.combinations(places, many):
            if first in side and last not in side:
                found.append(list(side))
    return found


def room_out(web, rooms, taking, side):
    return sum((Fraction(*rooms[number]) for number, one in enumerate(web[1])
                if number not in taking and leads_out(one, side)), Fraction(0))


def ways_in(cases):
    """The way, or flow, of each case."""
    return [cases[1]] + [one for number, inner in cases[2] for one in ways_in(inner)]


def purses_around(chance, web):
    """A purse just at the worth of a taking, one a little less, one a little more, and any one."""
    free = [number for number, one in enumerate(web[1]) if one[4] is not None]
    at = worth(web, chance.sample(free, min(len(free), chance.randint(0, 3))))
    little = Fraction(1, 10 ** 20)
    return [pair(one) for one in (at, max(at - little, Fraction(0)), at + little)] + [some_ratio(chance)]


def full_web(seed, worths=((1, 1),)):
    """Seven places in a row, fourteen ties: from each to the next one and the one behind that, and three any ones."""
    chance = random.Random(seed)
    places = list("abcdefg")
    ends = [(k, k + 1) for k in range(6)] + [(k, k + 2) for k in range(5)]
    ends += [chance.sample(range(7), 2) for k in range(3)]
    ties = [(places[one], places[other], chance.choice(("one", "both")), some_ratio(chance), chance.choice(worths))
            for one, other in ends]
    return (places, ties, "a", "g")


def all_paths(case, path=()):
    """Each case's path, each ahead of those within it."""
    told = [list(path)]
    for number, (one, inner) in enumerate(case[2]):
        told.extend(all_paths(inner, path + (number,)))
    return told


def at_path(case, path):
    for number in path:
        case = case[2][number][1]
    return case


def put_at(case, path, other):
    if not path:
        return other
    inner = list(case[2])
    inner[path[0]] = (inner[path[0]][0], put_at(inner[path[0]][1], path[1:], other))
    return (case[0], case[1], inner)


def spoilt_case(case):
    """The case made wrong in its word, its tuple or its list of cases, in many manners."""
    word, thing, inner = case
    other_word = "way" if word == "flow" else "flow"
    told = [(word + "s", thing, inner), ("", thing, inner), (None, thing, inner), (Prickly(), thing, inner),
            (word.encode(), thing, inner), (other_word, thing, inner), [word, thing, inner], (word, thing),
            (word, thing, inner, []), (), None, (thing, word, inner), (word, inner, thing),
            (word, thing, inner + [(0, case)]), (word, thing, tuple(inner)), (word, thing, None), (word, thing, {}),
            (word, thing, Prickly()), (word, thing, inner + [None])]
    for number, (one, other) in enumerate(inner):
        rest = inner[:number], inner[number + 1:]
        for wrong in ((one + 1, other), (str(one), other), (None, other), (bool(one), other), (one,), (),
                      (one, other, other), [one, other], None, one, other, (Prickly(), other), Prickly()):
            told.append((word, thing, rest[0] + [wrong] + rest[1]))
        told.append((word, thing, rest[0] + rest[1]))
        told.append((word, thing, rest[0] + [inner[number]] * 2 + rest[1]))
    if len(inner) > 1:
        told.append((word, thing, inner[::-1]))
        told.append((word, thing, [inner[1], inner[0]] + inner[2:]))
        told.append((word, thing, [inner[0]] * len(inner)))
    return told


def spoilt_ways(case):
    """The case with things that are no ways, in many manners."""
    word, way, inner = case
    wrong = [way + [0], way[:-1], tuple(way), None, way[:-1] + [str(way[-1])], [-1], Prickly(), [], [True], {}, "0", 0]
    return [(word, one, inner) for one in wrong]


def wrong_lists(right):
    """Lists and other things that are no rooms, or adds, for as many ties."""
    told = [None, tuple(right), {}, dict(enumerate(right)), "", 0, True, right[:-1], right + [(1, 1)], [], Prickly()]
    for number in range(len(right)):
        for thing in ((-1, 1), (2, 4), (0, 2), (1, 0), (1, -1), 1, True, None, "1", [1, 1], (1,), (True, 1), (1, True),
                      (1, 1, 1), Prickly()):
            told.append(right[:number] + [thing] + right[number + 1:])
    return told


def made_longer(web, more):
    """The web with each tie longer by a Fraction."""
    places, ties, first, last = web
    ties = [one[:3] + (pair(Fraction(*one[3]) + add), one[4]) for one, add in zip(ties, more)]
    return (places, ties, first, last)


def lengthened(web, adds, lengthening):
    return made_longer(web, [Fraction(*add) if number in lengthening else Fraction(0)
                             for number, add in enumerate(adds)])


def spread_cost(web, spread):
    return sum((Fraction(*one[4]) * Fraction(*more) for one, more in zip(web[1], spread) if one[4] is not None),
               Fraction(0))


def some_mix(chance, web):
    """A mix of some of the web's ways; None where it has none."""
    ways = all_ways(web)
    if not ways:
        return None
    picked = chance.sample(ways, chance.randint(1, min(len(ways), 4)))
    parts = [chance.randint(1, 5) for way in picked]
    return [(way, pair(Fraction(part, sum(parts)))) for way, part in zip(picked, parts)]


def some_spread(chance, web, adds, purse):
    """A spread within the purse: parts of the adds, all made less where they cost too much."""
    spread = [Fraction(0) if one[4] is None else Fraction(*add) * Fraction(chance.randint(0, 3), 3)
              for one, add in zip(web[1], adds)]
    cost = spread_cost(web, [pair(more) for more in spread])
    if cost > Fraction(*purse):
        spread = [more * Fraction(*purse) / cost for more in spread]
    return [pair(more) for more in spread]


def mix_claim(web, adds, purse, mix, rate):
    """What a mix claims at a rate, by the document's words."""
    total = sum((Fraction(*share) * size(web, way) for way, share in mix), Fraction(0))
    total += Fraction(*rate) * Fraction(*purse)
    for number, one in enumerate(web[1]):
        if one[4] is not None:
            load = sum((Fraction(*share) for way, share in mix if number in way), Fraction(0))
            total += Fraction(*adds[number]) * max(load - Fraction(*rate) * Fraction(*one[4]), Fraction(0))
    return total


def with_change(web, change):
    """The changed web, by the document's words."""
    places, ties, first, last = web
    if change[0] == "tie":
        ties = ties + [change[1]]
    elif change[0] == "gone":
        ties = ties[:change[1]] + ties[change[1] + 1:]
    else:
        one = ties[change[1]]
        one = one[:3] + ((change[2], one[4]) if change[0] == "length" else (one[3], change[2]))
        ties = ties[:change[1]] + [one] + ties[change[1] + 1:]
    return (list(places), list(ties), first, last)


def some_change(chance, web, plan=None):
    """A change of the web; lengths and worths are often a little more or less, also of a tie of the plan."""
    places, ties, first, last = web
    word = chance.choice(("length", "worth", "tie", "gone"))
    if not ties or (word == "tie" and len(ties) < 14):
        one, other = chance.sample(places, 2)
        worth = chance.choice((None, some_ratio(chance, 1)))
        return ("tie", (one, other, chance.choice(("one", "both")), some_ratio(chance), worth))
    number = chance.randrange(len(ties))
    if plan is not None and chance.random() < 0.5:
        number = chance.choice(plan[1] + (plan[2] if plan[0] == "left" else []) or [number])
    if word == "length":
        now = Fraction(*ties[number][3])
        little = Fraction(chance.choice((-1, 0, 1)), 10 ** 20)
        return (word, number, chance.choice((some_ratio(chance), pair(max(now + little, Fraction(0))))))
    if word == "worth":
        now = Fraction(*(ties[number][4] or (1, 1)))
        little = Fraction(chance.choice((-1, 0, 1)), 10 ** 20)
        return (word, number, chance.choice((None, some_ratio(chance, 1), pair(now + little))))
    return ("gone", number)
