"""The refusals: one class for each, all under CalmError."""


class CalmError(ValueError):
    pass


class BadNet(CalmError):
    pass


class BadRule(CalmError):
    pass


class BadState(CalmError):
    pass


class BadTurn(CalmError):
    pass


class BadText(CalmError):
    pass


class TooGreat(CalmError):
    pass


class NoMeasure(CalmError):
    pass
