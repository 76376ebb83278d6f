"""The refusals of the program."""


class FillError(ValueError):
    """Any refusal; each other one stands straight under it."""


class NoNumber(FillError):
    """What was asked for is no number: something over nought."""


class NoWeb(FillError):
    """The things make no web."""


class NoPlace(FillError):
    """The thing is no place of the web or sheet."""


class NoOrder(FillError):
    """The thing is no list with each place once."""


class NoParting(FillError):
    """The thing is no list of unlike places."""


class TooMany(FillError):
    """The web has more places than are answered for."""


class NoSheet(FillError):
    """The things make no sheet."""


class NoPivot(FillError):
    """A pivot is nought; the field place tells whose it is."""

    def __init__(self, place):
        FillError.__init__(self, f"the pivot of the place {place} is nought")
        self.place = place


class NoRow(FillError):
    """The thing is no row that may stand in the sheet at its place."""


class NoText(FillError):
    """The thing is no text of what is read; the field line tells the first line at fault, from 0."""

    def __init__(self, line):
        FillError.__init__(self, f"the line {line} may not stand there")
        self.line = line


class NoWord(FillError):
    """The thing is no row that a desk can be told."""
