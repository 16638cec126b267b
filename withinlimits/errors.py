"""The errors of the package, all below LimitError."""


class LimitError(ValueError):
    """What all errors of this package are."""


class NoPart(LimitError):
    """No part of a reader: path leads to the first wrong one."""

    def __init__(self, path):
        self.path = path


class NoRow(LimitError):
    """No row: index is that of the first wrong cell, or None."""

    def __init__(self, index):
        self.index = index


class NoSet(LimitError):
    """No set of lengths, or no front: place names what is wrong."""

    def __init__(self, place):
        self.place = place


class NoText(LimitError):
    """No text of a reader: line is the number of the first wrong line, or None."""

    def __init__(self, line):
        self.line = line


class NoWord(LimitError):
    """An argument that is none of those allowed: value is that argument."""

    def __init__(self, value):
        self.value = value


class TooLarge(LimitError):
    """Too large for the program: limit names what is."""

    def __init__(self, limit):
        self.limit = limit


class NoPaper(LimitError):
    """No right paper."""


class NoChange(LimitError):
    """No change of a reader: value is the wrong one, or the tuple of all."""

    def __init__(self, change):
        self.value = change


class Stopped(LimitError):
    """A reading that stops: place is the position at which it does."""

    def __init__(self, place):
        self.place = place


class Refused(Stopped):
    """The row is refused: reason is a word that tells why."""

    def __init__(self, place, reason):
        Stopped.__init__(self, place)
        self.reason = reason


class Beyond(Stopped):
    """A look beyond the end of a limit."""


class Endless(Stopped):
    """A reading that would go on for ever without a look."""
