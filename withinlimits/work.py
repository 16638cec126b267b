"""How much work a reading can be."""

from withinlimits.efforts import ENDLESS, greatest_work
from withinlimits.errors import NoWord
from withinlimits.plain import is_from
from withinlimits.reading import check_reader
from withinlimits.tables import asked, lengths_at
from withinlimits.witness import written

MOST_LENGTH = 60


def most_work(reader, length):
    """The greatest work over all rows of a length; None if it grows with a number in the row."""
    check_reader(reader)
    if not is_from(length, 0, MOST_LENGTH):
        raise NoWord(length)
    work = greatest_work(reader.study, None, "any", False, length)
    return None if work >= ENDLESS else work


def idle_of(reader):
    """A row, and the index of a number in it with which the work grows; None if there is none."""
    check_reader(reader)
    lengths = lengths_at(reader.study, asked("idle"))
    if not lengths:
        return None
    writer = written(reader.study, asked("idle"), lengths.least())
    return writer.cells, writer.going[-1]
