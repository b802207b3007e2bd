"""The errors of the package.

Each one keeps its fields as they are and puts none of them into a message of its own,
because a field may be any value, also one that cannot be written out.
"""


class CountError(ValueError):
    """What all errors of the package have in common."""


class BadText(CountError):
    """A text is wrong from this column on."""

    def __init__(self, column):
        self.column = column


class BadLine(CountError):
    """A text of several lines is wrong from this column of this line on."""

    def __init__(self, line, column):
        self.line = line
        self.column = column


class BadNumber(CountError):
    """What is passed as a number of some purpose is none for it."""

    def __init__(self, what, number):
        self.what = what
        self.number = number


class BadRow(CountError):
    """What is passed as a row is none of the wanted kind."""

    def __init__(self, row):
        self.row = row


class BadName(CountError):
    """What is passed as a name is none, or a name that may not stand there."""

    def __init__(self, name):
        self.name = name


class Unlike(CountError):
    """Two things do not agree in what they should have in common."""

    def __init__(self, what):
        self.what = what


class TooMany(CountError):
    """There are more things of a kind than the limit allows."""

    def __init__(self, what, limit):
        self.what = what
        self.limit = limit


class TooLarge(CountError):
    """A number is above its limit."""

    def __init__(self, what, number, limit):
        self.what = what
        self.number = number
        self.limit = limit


class NoName(CountError):
    """Nothing has this name."""

    def __init__(self, name):
        self.name = name


class TakenName(CountError):
    """Something has or uses this name already."""

    def __init__(self, name):
        self.name = name


class NotKept(CountError):
    """A promise is not kept, as its witness shows."""

    def __init__(self, promise, witness):
        self.promise = promise
        self.witness = witness


class NothingToUndo(CountError):
    """There is no edit to take back."""


class NothingToRedo(CountError):
    """There is no edit to do again."""
