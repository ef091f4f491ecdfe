"""The errors: each keeps its arguments, whatever values they are, under their names."""


class FactsError(ValueError):
    """What all errors of piecefacts have in common."""


class BadColumn(FactsError):
    """A value that is no column."""

    def __init__(self, value):
        self.value = value


class BadRanges(FactsError):
    """A value that is no range set for a condition."""

    def __init__(self, value):
        self.value = value


class BadFlag(FactsError):
    """A value that is neither True nor False."""

    def __init__(self, value):
        self.value = value


class BadQuestion(FactsError):
    """A value that is not the string of a question."""

    def __init__(self, value):
        self.value = value


class BadCount(FactsError):
    """A value that is no integer, or none within the bounds."""

    def __init__(self, value):
        self.value = value


class BadColumns(FactsError):
    """A tuple that does not hold 1 to 4 different columns."""

    def __init__(self, value):
        self.value = value


class BadRow(FactsError):
    """A value that is no row of the table."""

    def __init__(self, value):
        self.value = value


class BadPoints(FactsError):
    """A tuple that holds no cut points."""

    def __init__(self, value):
        self.value = value


class BadText(FactsError):
    """The line at which a text stops being the text of a table."""

    def __init__(self, line):
        self.line = line


class NoColumn(FactsError):
    """A column that is not there."""

    def __init__(self, value):
        self.value = value


class NoRow(FactsError):
    """A value that is no id of a live row."""

    def __init__(self, value):
        self.value = value


class NoVersion(FactsError):
    """A value that is no kept version."""

    def __init__(self, value):
        self.value = value


class NoPiece(FactsError):
    """A value that is no piece of the table."""

    def __init__(self, value):
        self.value = value


class Twice(FactsError):
    """A column that would stand in two places."""

    def __init__(self, column):
        self.column = column


class TooMany(FactsError):
    """There would be more than the limit allows."""

    def __init__(self, limit):
        self.limit = limit


class SameTable(FactsError):
    """Two tables were asked for, and both are the same object."""


class NothingToDo(FactsError):
    """There is nothing that could be packed or folded."""
