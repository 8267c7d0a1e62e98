"""Ways and cases as texts, written and read by their form alone."""

from farthestcut.errors import NoText
from farthestcut.steps import look_at_numbers

NUMBERS = ("0", "1", "2", "3", "4", "5", "6", "7", "8", "9", "10", "11", "12", "13")
MOST_IN_WAY = 6
MOST_IN_LIST = 6
# How many lists of cases that have something stand within one another.
MOST_WITHIN = 3


class Reader:
    # A text, and where in it one reads.
    def __init__(self, text):
        self.text = text
        self.at = 0

    def stands(self, signs):
        return self.text.startswith(signs, self.at)

    def skip(self, signs):
        if not self.stands(signs):
            raise NoText(0)
        self.at = self.at + len(signs)

    def read_to(self, sign):
        begin = self.at
        end = self.text.find(sign, begin)
        self.at = len(self.text) if end < 0 else end
        return self.text[begin:self.at]


def shown_way(way):
    look_at_numbers(way)
    return ",".join([str(number) for number in way])


def shown_cases(cases):
    inner = [str(tie) + ": " + shown_cases(case) for tie, case in cases[2]]
    return "way " + shown_way(cases[1]) + " [" + "; ".join(inner) + "]"


def read_number(text):
    if text not in NUMBERS:
        raise NoText(0)
    return int(text)


def read_way(text):
    parts = text.split(",") if isinstance(text, str) else []
    if not 1 <= len(parts) <= MOST_IN_WAY:
        raise NoText(0)
    return [read_number(part) for part in parts]


def read_cases(text):
    if not isinstance(text, str):
        raise NoText(0)
    reader = Reader(text)
    cases = read_within(reader, 0)
    if reader.at != len(text):
        raise NoText(0)
    return cases


def read_within(reader, around):
    # Around is how many lists one reads in: where they are the most, no more is read, however deep the text goes.
    reader.skip("way ")
    way = read_way(reader.read_to(" "))
    reader.skip(" [")
    cases = []
    while not reader.stands("]"):
        if around == MOST_WITHIN or len(cases) == MOST_IN_LIST:
            raise NoText(0)
        if cases != []:
            reader.skip("; ")
        tie = read_number(reader.read_to(":"))
        reader.skip(": ")
        cases.append((tie, read_within(reader, around + 1)))
    reader.skip("]")
    return ("way", way, cases)
