"""For which lengths a row can be read, refused, can make a reader look beyond or read for ever."""

from withinlimits.errors import NoWord
from withinlimits.plain import is_from, is_one_of
from withinlimits.reading import check_reader
from withinlimits.tables import KINDS, asked, lengths_at
from withinlimits.witness import written

MOST_LENGTH = 1000


def check_kind(kind):
    """Raise NoWord unless this is a kind of outcome."""
    if not is_one_of(kind, KINDS):
        raise NoWord(kind)


def lengths_of(reader, kind):
    """The set of all lengths of rows with this kind of outcome."""
    check_reader(reader)
    check_kind(kind)
    return lengths_at(reader.study, asked(kind))


def example(reader, kind, length):
    """A row of this length with this kind of outcome, or None."""
    check_reader(reader)
    check_kind(kind)
    if not is_from(length, 0, MOST_LENGTH):
        raise NoWord(length)
    if length not in lengths_of(reader, kind):
        return None
    return written(reader.study, asked(kind), length).cells


class Verdict:
    """Whether a reader looks beyond with no row; else a row with the fewest cells with which it does."""

    def __init__(self, reader):
        self.all_lengths = lengths_of(reader, "beyond")
        self.cells = None
        self.at = None
        if self.all_lengths:
            row = written(reader.study, asked("beyond"), self.all_lengths.least()).cells
            self.cells = tuple(row)
            self.at = reader(row).at

    @property
    def row(self):
        """A new list of the cells of the row, or None."""
        return None if self.cells is None else list(self.cells)

    def __bool__(self):
        return bool(self.cells is None)


def verdict_of(reader):
    """The verdict on a reader."""
    return Verdict(reader)
