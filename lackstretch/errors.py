"""The refusals: each a class of its own under LackError."""


class LackError(ValueError):
    pass


class NoBase(LackError):
    pass


class NoNumber(LackError):
    pass


class NoFigures(LackError):
    pass


class NoRule(LackError):
    pass


class NoStand(LackError):
    pass


class NoGood(LackError):
    pass


class Endless(LackError):
    pass


class NoRules(LackError):
    pass


class NoStretch(LackError):
    pass


class TooMany(LackError):
    pass


class NoText(LackError):
    pass


class NoName(LackError):
    pass


class NoRow(LackError):
    pass
