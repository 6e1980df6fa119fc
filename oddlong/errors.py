"""The refusals of the program, each straight under OddError."""

# Python itself keeps what an error is made with as its words, so the classes
# below give their one field and leave the rest to it.


class OddError(ValueError):
    """What every refusal stands under."""


class TooFull(OddError):
    """There is no room for so many codes of these lengths."""


class NoPlace(OddError):
    """No row begins at the place that was asked of."""


class NoName(OddError):
    """A name isn't in the book."""

    def __init__(self, name):
        self.name = name


class BadText(OddError):
    """Nothing can be read at a place of a text."""

    def __init__(self, place):
        self.place = place


class NoForm(OddError):
    """What was handed in makes no form."""

    def __init__(self, why):
        self.why = why


class TooFar(OddError):
    """A jump isn't reached."""

    def __init__(self, row):
        self.row = row


class NoTarget(OddError):
    """A jump leads to where no row begins."""

    def __init__(self, place):
        self.place = place


class BadRow(OddError):
    """A row of a sheet isn't written as it must be, or can't stand there."""

    def __init__(self, row):
        self.row = row
