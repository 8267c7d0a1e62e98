"""A desk that keeps webs by names, is told rows and answers each by a text."""

from farthestcut.best import best_taking
from farthestcut.cases import claim_of_cases
from farthestcut.casetexts import shown_cases, shown_way
from farthestcut.changes import changed
from farthestcut.deskrows import read_row
from farthestcut.errors import NoName, TooMany
from farthestcut.prices import least_way
from farthestcut.treads import treads_of
from farthestcut.values import value_of
from farthestcut.webs import LAST
from farthestcut.webtexts import read_web, shown_ratio, shown_web

MOST_WEBS = 20
OK = "ok"
NOTHING = "-"


class Desk:
    def __init__(self):
        self.webs = {}
        # By each web's name what its last best taking told of cases.
        self.reasons = {}

    def say(self, row):
        said = read_row(row)
        if said[0] == "names":
            return " ".join(sorted(list(self.webs))) if self.webs != {} else NOTHING
        if said[0] == "web":
            return self.tell_web(said[1], said[2])
        if said[1] not in self.webs:
            raise NoName("no web stands by this name")
        return self.answer_of(said, said[1])

    def tell_web(self, name, text):
        web = read_web(text.replace("; ", "\n"))
        if name not in self.webs and len(self.webs) == MOST_WEBS:
            raise TooMany("no more webs are kept")
        return self.put_web(name, web)

    def put_web(self, name, web):
        self.webs[name] = web
        self.reasons[name] = NOTHING
        return OK

    def answer_of(self, said, name):
        if said[0] == "drop":
            self.webs.pop(name)
            self.reasons.pop(name)
            return OK
        if said[0] == "why":
            return self.reasons[name]
        if said[0] == "best":
            best = best_taking(self.webs[name], said[2])
            self.reasons[name] = shown_cases(best[4]) if best[0] == "left" else NOTHING
            return shown_best(self.webs[name], best)
        change = change_of(said)
        if change is not None:
            return self.put_web(name, changed(self.webs[name], change))
        return answer_by(self.webs[name], said)


def change_of(said):
    if said[0] == "length" or said[0] == "worth":
        return (said[0], said[2], said[3])
    if said[0] == "gone":
        return (said[0], said[2])
    return None


def answer_by(web, said):
    if said[0] == "shown":
        return shown_web(web).replace("\n", "; ")
    if said[0] == "way":
        return shown_least(least_way(web, []))
    if said[0] == "value":
        value = value_of(web, said[2])
        return value if isinstance(value, str) else shown_ratio(value)
    if said[0] == "treads":
        return ", ".join([shown_tread(worth, length) for worth, length in treads_of(web, said[2])])
    return shown_ratio(claim_of_cases(web, said[2], said[3]))


def shown_least(found):
    if found[0] is None:
        return "none"
    return shown_way(found[0]) + " " + shown_ratio(found[1])


def shown_tread(worth, length):
    return shown_ratio(worth) + " " + ("none" if length is None else shown_ratio(length))


def shown_best(web, best):
    taking = NOTHING if best[1] == [] else shown_way(best[1])
    return taking + " " + ("cut" if best[0] == "cut" else shown_ratio(best[3][web[LAST]]))
