"""All errors of the package [0.17]."""


class CrestError(ValueError):
    """What every error of the package is derived from."""


class InvalidLot(CrestError):
    """A value that is no lot."""


class InvalidTable(CrestError):
    """A value that is no table, or rows that make none."""


class InvalidQuestion(CrestError):
    """A value that is no question, or parts that make none."""


class InvalidRank(CrestError):
    """A value that is no rank."""


class InvalidTold(CrestError):
    """A value that is no told degrees."""


class InvalidFlow(CrestError):
    """A value that is no flow."""


class InvalidClaim(CrestError):
    """A value that is no claim."""


class InvalidOperation(CrestError):
    """Arguments that do not fit together, or to what is asked."""


class InvalidNumber(CrestError):
    """A value that is no number of those that are let."""

    def __init__(self, given):
        self.given = given


class UnknownName(CrestError):
    """A name that nothing has."""

    def __init__(self, wanted):
        self.wanted = wanted


class TooMany(CrestError):
    """More than the most that is let."""

    def __init__(self, most):
        self.most = most


class Refused(CrestError):
    """What cannot be done, and the reason."""

    def __init__(self, reason):
        self.reason = reason


class ParseError(CrestError):
    """A text that is the text of nothing, and the place at which it is wrong."""

    def __init__(self, at):
        self.at = at
