"""Changes of a web, and takings, ways and cases carried over them."""

from farthestcut.errors import NoChange, NoWeb
from farthestcut.renumbering import cases_by, numbers_by
from farthestcut.steps import walk_way
from farthestcut.takings import look_at_taking
from farthestcut.webs import FIRST, LAST, LENGTH, ONE, OTHER, PLACES, TIES, WORD, WORTH, is_tie_number, look_at_web

# How many things stand in a change of each word.
PARTS = {"length": 3, "worth": 3, "tie": 2, "gone": 2}


def changed(web, change):
    look_at_web(web)
    if not is_change_by_form(web, change):
        raise NoChange("a change is a tuple of a word and what belongs to it")
    told = (list(web[PLACES]), ties_behind(web[TIES], change), web[FIRST], web[LAST])
    try:
        look_at_web(told)
    except NoWeb:
        raise NoChange("what it would make is no web")
    return told


def is_change_by_form(web, thing):
    if not isinstance(thing, tuple) or len(thing) == 0 or not isinstance(thing[0], str):
        return False
    if thing[0] not in PARTS or len(thing) != PARTS[thing[0]]:
        return False
    return thing[0] == "tie" or is_tie_number(web, thing[1])


def ties_behind(ties, change):
    told = list(ties)
    if change[0] == "tie":
        told.append(change[1])
    elif change[0] == "gone":
        told.pop(change[1])
    else:
        told[change[1]] = tie_with(ties[change[1]], change[0], change[2])
    return told


def tie_with(tie, word, thing):
    length = thing if word == "length" else tie[LENGTH]
    worth = thing if word == "worth" else tie[WORTH]
    return (tie[ONE], tie[OTHER], tie[WORD], length, worth)


def numbers_behind(web, change):
    # From each tie's number to the one that it has then; a tie that is gone has none.
    changed(web, change)
    there = {}
    for number in range(len(web[TIES])):
        if change[0] != "gone" or number < change[1]:
            there[number] = number
        elif number > change[1]:
            there[number] = number - 1
    return there


def carried_taking(web, change, taking):
    there = numbers_behind(web, change)
    look_at_taking(web, taking)
    return numbers_or_none(there, taking)


def carried_way(web, change, way):
    there = numbers_behind(web, change)
    walk_way(web, [], way)
    return numbers_or_none(there, way)


def numbers_or_none(there, numbers):
    try:
        return numbers_by(there, numbers)
    except KeyError:
        return None


def carried_cases(web, change, cases):
    there = numbers_behind(web, change)
    try:
        return cases_by(there, cases)
    except KeyError:
        return None
