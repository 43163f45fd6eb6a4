"""The errors of the package."""


class FiveError(ValueError):
    """What all errors of the package are derived from."""


class InvalidWeb(FiveError):
    """A web, or several, was asked for, and something else was given."""


class InvalidRow(FiveError):
    """A row of a web was asked for, and something else was given."""


class InvalidMap(FiveError):
    """A map was asked for, and something else was given."""


class InvalidBags(FiveError):
    """Bags of a web were asked for, and something else was given."""


class InvalidRecipe(FiveError):
    """A recipe was asked for, and something else was given."""


class InvalidSentence(FiveError):
    """A sentence was asked for, and something else was given."""


class InvalidTable(FiveError):
    """A table or a ladder was asked for, and something else was given."""


class InvalidClaim(FiveError):
    """A claim was asked for, and something else was given."""


class InvalidOperation(FiveError):
    """What was asked for cannot be done with what was given."""


class InvalidNumber(FiveError):
    """A number was asked for, and something else was given."""

    def __init__(self, given):
        FiveError.__init__(self, "this is not a number that can stand here")
        self.given = given


class UnknownName(FiveError):
    """There is nothing of this name."""

    def __init__(self, wanted):
        FiveError.__init__(self, "there is nothing of this name")
        self.wanted = wanted


class TooMany(FiveError):
    """There are more than a limit lets."""

    def __init__(self, most):
        FiveError.__init__(self, "there are more than the limit lets")
        self.most = most


class Refused(FiveError):
    """What was asked for has no answer, for the reason that is kept."""

    def __init__(self, reason):
        FiveError.__init__(self, "this has no answer")
        self.reason = reason


class ParseError(FiveError):
    """A text cannot be read from some place on."""

    def __init__(self, at):
        FiveError.__init__(self, "the text cannot be read from here on")
        self.at = at
