"""The refusals: each kind of its own straight under CutError."""


class CutError(ValueError):
    pass


class NoNumber(CutError):
    pass


class NoPurse(CutError):
    pass


class NoTaking(CutError):
    pass


class NoTie(CutError):
    pass


class TooMany(CutError):
    pass


class NoRooms(CutError):
    pass


class NoSide(CutError):
    pass


class NoAdds(CutError):
    pass


class NoTurn(CutError):
    pass


class NoJoin(CutError):
    pass


class NoChange(CutError):
    pass


class NoDeed(CutError):
    pass


class NoRow(CutError):
    pass


class NoName(CutError):
    pass


class NoWeb(CutError):
    def __init__(self, part, number):
        CutError.__init__(self, part, number)
        self.part = part
        self.number = number


class NoWay(CutError):
    def __init__(self, at):
        CutError.__init__(self, at)
        self.at = at


class NoFlow(CutError):
    def __init__(self, at):
        CutError.__init__(self, at)
        self.at = at


class NoSpread(CutError):
    def __init__(self, at):
        CutError.__init__(self, at)
        self.at = at


class NoMix(CutError):
    def __init__(self, at):
        CutError.__init__(self, at)
        self.at = at


class NoCases(CutError):
    # The path is copied twice: neither the maker's list nor the one in the words may be the field's.
    def __init__(self, path):
        CutError.__init__(self, list(path))
        self.path = list(path)


class Unbalanced(CutError):
    def __init__(self, place):
        CutError.__init__(self, place)
        self.place = place


class NoText(CutError):
    def __init__(self, row):
        CutError.__init__(self, row)
        self.row = row
