"""The refusals: one class each, all of them straight under LidError."""


class LidError(ValueError):
    pass


class NoTable(LidError):
    pass


class NoBox(LidError):
    pass


class NoDeed(LidError):
    pass


class NoSets(LidError):
    pass


class NoOffers(LidError):
    pass


class NoRule(LidError):
    pass


class NoRanks(LidError):
    pass


class NoText(LidError):
    pass


class NoPattern(LidError):
    def __init__(self, one, other):
        self.one = one
        self.other = other


class NoPlan(LidError):
    def __init__(self, way):
        self.way = way


class TooMany(LidError):
    def __init__(self, many):
        self.many = many
