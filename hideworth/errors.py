"""The refusals. All stand straight under HideError, so that a caller can take any of them at once."""


class HideError(ValueError):
    pass


class NoNumber(HideError):
    pass


class NoTable(HideError):
    pass


class NoBoxes(HideError):
    pass


class NoBudget(HideError):
    pass


class NoOrder(HideError):
    pass


class NoWeights(HideError):
    pass


class TooGreat(HideError):
    pass


class NoKind(HideError):
    pass


class NoTree(HideError):
    pass


class NoTurns(HideError):
    pass


class NoPlay(HideError):
    pass


class NoRow(HideError):
    pass


class NoName(HideError):
    pass


class NoRoad(HideError):
    pass


class NoWeb(HideError):
    def __init__(self, road):
        HideError.__init__(self, road)
        self.road = road


class NoPlan(HideError):
    def __init__(self, at):
        HideError.__init__(self, at)
        self.at = at


class NoText(HideError):
    def __init__(self, row):
        HideError.__init__(self, row)
        self.row = row


class NoPaper(HideError):
    def __init__(self, k):
        HideError.__init__(self, k)
        self.k = k
