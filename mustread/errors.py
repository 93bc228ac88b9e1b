"""All errors of the package."""


class MustError(ValueError):
    """The base class of all errors of the package."""


class BadExpression(MustError):
    """What was given does not make an expression."""


class BadContract(MustError):
    """What was given does not make a contract."""


class BadProgram(MustError):
    """What was given does not make a program; part is the name of the first wrong function, or None."""

    def __init__(self, why="not a program", part=None):
        super().__init__(why)
        self.part = part


class BadChange(MustError):
    """What was given is not a change of the program."""


class BadName(MustError):
    """What was given is not a name that is known here."""


class BadChoice(MustError):
    """What was given is not a set of unchanged functions."""


class BadTree(MustError):
    """What was given is not a tree of cases."""


class TooLarge(MustError):
    """There are too many cases."""


class NothingRead(MustError):
    """There is no reading that could be taken back."""


class BadText(MustError):
    """The text cannot be read; row is the index of the first wrong line."""

    def __init__(self, why="not a text", row=0):
        super().__init__(why)
        self.row = row
