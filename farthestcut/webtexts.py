"""Fractions and webs as texts, written and read."""

from farthestcut.errors import NoText
from farthestcut.names import is_name, is_ratio
from farthestcut.webs import FEWEST_PLACES, FIRST, LAST, LENGTH, MOST_PLACES, MOST_TIES, ONE, OTHER, PLACES, TIES, WORD
from farthestcut.webs import WORTH, is_tie, look_at_web

FIGURES = "0123456789"
MOST_FIGURES = 60


class Draft:
    # What the rows up to one have told of a web; ends are first, then last.
    def __init__(self):
        self.places = []
        self.ties = []
        self.ends = []


def shown_ratio(one):
    if one[1] == 1:
        return str(one[0])
    return str(one[0]) + "/" + str(one[1])


def read_ratio(text):
    parts = text.split("/") if isinstance(text, str) else []
    if not 1 <= len(parts) <= 2 or not all([has_figures(part) for part in parts]):
        raise NoText(0)
    one = (int(parts[0]), int(parts[1]) if len(parts) == 2 else 1)
    # Noughts ahead, a bottom of 1 and the like make another text than the fraction's own.
    if not is_ratio(one) or shown_ratio(one) != text:
        raise NoText(0)
    return one


def has_figures(text):
    figures = text[1:] if text.startswith("-") else text
    return 1 <= len(figures) <= MOST_FIGURES and all([sign in FIGURES for sign in figures])


def shown_web(web):
    look_at_web(web)
    rows = ["place " + place for place in web[PLACES]]
    rows.extend([shown_tie(tie) for tie in web[TIES]])
    rows.extend(["first " + web[FIRST], "last " + web[LAST]])
    return "\n".join(rows)


def shown_tie(tie):
    worth = "-" if tie[WORTH] is None else shown_ratio(tie[WORTH])
    return " ".join(["tie", tie[ONE], tie[OTHER], tie[WORD], shown_ratio(tie[LENGTH]), worth])


def read_web(text):
    if not isinstance(text, str):
        raise NoText(0)
    draft = Draft()
    rows = text.split("\n")
    for number, row in enumerate(rows):
        if not takes_row(draft, row.split(" ")):
            raise NoText(number)
    if len(draft.ends) < 2:
        raise NoText(len(rows))
    return (draft.places, draft.ties, draft.ends[0], draft.ends[1])


def takes_row(draft, words):
    # A row is taken where it, behind those ahead, begins some web's writing.
    if words[0] == "place" and len(words) == 2:
        return takes_place(draft, words[1])
    if words[0] == "tie" and len(words) == 6:
        return takes_tie(draft, read_tie(words))
    if words[0] == "first" and len(words) == 2:
        return draft.ends == [] and takes_end(draft, words[1])
    if words[0] == "last" and len(words) == 2:
        return len(draft.ends) == 1 and takes_end(draft, words[1])
    return False


def takes_place(draft, name):
    if draft.ties != [] or draft.ends != [] or len(draft.places) == MOST_PLACES:
        return False
    if not is_name(name) or name in draft.places:
        return False
    draft.places.append(name)
    return True


def read_tie(words):
    # None where the words write no tie.
    try:
        length = read_ratio(words[4])
        worth = None if words[5] == "-" else read_ratio(words[5])
    except NoText:
        return None
    tie = (words[1], words[2], words[3], length, worth)
    return tie if is_tie(tie) else None


def takes_tie(draft, tie):
    if tie is None or draft.ends != [] or len(draft.ties) == MOST_TIES:
        return False
    if tie[ONE] not in draft.places or tie[OTHER] not in draft.places:
        return False
    draft.ties.append(tie)
    return True


def takes_end(draft, name):
    if len(draft.places) < FEWEST_PLACES or name not in draft.places or name in draft.ends:
        return False
    draft.ends.append(name)
    return True
