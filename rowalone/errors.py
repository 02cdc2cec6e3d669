"""The errors that the package raises."""


class RowError(ValueError):
    """What all errors of the package have in common."""


class InvalidSystem(RowError):
    """Values make no system: -1 for the whole, otherwise the index of a row."""

    def __init__(self, at):
        self.at = at


class InvalidText(RowError):
    """A value is no text of a system: -1 for the whole, otherwise the number of a line."""

    def __init__(self, at):
        self.at = at


class InvalidBox(RowError):
    """A value is no box: -1 for the whole, otherwise the index of an item."""

    def __init__(self, at):
        self.at = at


class InvalidPoint(RowError):
    """A value is no point: -1 for the whole, otherwise the index of an item."""

    def __init__(self, at):
        self.at = at


class InvalidPaper(RowError):
    """A value is no such combination: -1 for the whole, otherwise an index."""

    def __init__(self, at):
        self.at = at


class InvalidNumber(RowError):
    """A number is not as it must be: the word tells which one."""

    def __init__(self, word):
        self.word = word


class Refused(RowError):
    """What is asked for is not there: the word tells why."""

    def __init__(self, word):
        self.word = word
