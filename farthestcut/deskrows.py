"""Rows told to a desk, read to the sign."""

from farthestcut.casetexts import read_cases, read_number
from farthestcut.errors import NoRow, NoText
from farthestcut.names import is_name
from farthestcut.webtexts import read_ratio

# What follows each row's first word. A text and cases are all that follows, blanks too, so they come last.
FORMS = {
    "web": ("name", "text"),
    "shown": ("name",),
    "drop": ("name",),
    "names": (),
    "way": ("name",),
    "value": ("name", "number"),
    "best": ("name", "fraction"),
    "why": ("name",),
    "treads": ("name", "fraction"),
    "claims": ("name", "fraction", "cases"),
    "length": ("name", "number", "fraction"),
    "worth": ("name", "number", "worth"),
    "gone": ("name", "number"),
}


def read_row(row):
    # A list of the row's first word and what follows it, each as what it writes.
    if not isinstance(row, str) or "\n" in row:
        raise NoRow("a row is a text without a line feed")
    word = row.partition(" ")[0]
    if word not in FORMS:
        raise NoRow("no row begins so")
    forms = FORMS[word]
    parts = row.split(" ", len(forms))
    if parts[0] != word or len(parts) != len(forms) + 1:
        raise NoRow("the row has too few or too many words")
    try:
        return [word] + [read_part(form, part) for form, part in zip(forms, parts[1:])]
    except NoText:
        raise NoRow("a word of the row isn't as told")


def read_part(form, text):
    if form == "number":
        return read_number(text)
    if form == "cases":
        return read_cases(text)
    if form == "worth" and text == "-":
        return None
    if form == "fraction" or form == "worth":
        return read_ratio(text)
    if text == "" or (form == "name" and not is_name(text)):
        raise NoRow("a word of the row isn't as told")
    return text
