"""The errors of the package, each of its own class directly under LadderError."""


class LadderError(ValueError):
    """What all errors of the package are."""


class Unfit(LadderError):
    """What was handed in does not fit the call."""


class BadMachine(LadderError):
    """A value is no machine; error is what machine_error tells of it."""

    def __init__(self, error):
        self.error = error


class BadProgram(LadderError):
    """A value is no program; error is what program_error tells of it."""

    def __init__(self, error):
        self.error = error


class BadTable(LadderError):
    """A value is no table; error is what table_error tells of it."""

    def __init__(self, error):
        self.error = error


class BadText(LadderError):
    """A text cannot be read; line is the number of the line that cannot stand."""

    def __init__(self, line):
        self.line = line


class BadLog(LadderError):
    """A log cannot be done again; line is the place of the edit that cannot be done."""

    def __init__(self, line):
        self.line = line


class TooMany(LadderError):
    """There is more of something than limit."""

    def __init__(self, limit):
        self.limit = limit


class TooManyEdits(LadderError):
    """As many edits stand as may stand."""


class NothingToUndo(LadderError):
    """No edit stands that could be taken back."""
