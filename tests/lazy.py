"""All readings of rows of a length, each cell chosen only when it is looked at."""

from withinlimits import cells, reading
from withinlimits.parts import subparts


class Undecided(Exception):
    """A look at a cell that is not chosen yet."""

    def __init__(self, place, options):
        self.place = place
        self.options = options


class ChosenCursor(cells.Cursor):
    """A cursor over cells that are chosen: a dict from positions to cells."""

    chosen = None
    numbers = ()
    begun = None

    def bare(self, low=0, high=None):
        if min(self.at, *(limit.end for limit in limits_of(self))) < self.at:
            raise AssertionError("behind an end")
        if all(self.at < limit.end for limit in limits_of(self)):
            if self.at not in self.chosen:
                options = [low] if low == 0 and high is None else [low, low - 1 if low > 0 else high + 1]
                raise Undecided(self.at, options)
            self.cells = self.cells[:self.at] + (self.chosen[self.at],) + self.cells[self.at + 1:]
        return cells.Cursor.bare(self, low, high)


def limits_of(cursor):
    limit = cursor.innermost
    while limit is not None:
        yield limit
        limit = limit.outer


def numbers_for(part, length):
    """All numbers that matter as counts, lengths and choices."""
    options = {option[0] for path, one in subparts(part) if one[0] == "choice" for option in one[2]}
    greatest = {one[2] + 1 for path, one in subparts(part) if one[0] in ("counted", "within") and one[2] is not None}
    return sorted(options | greatest | set(range(length + 3)) | {max(options, default=0) + 1})


def unlike(part):
    """The part with each tuple in it made anew, so that each can be told by its identity."""
    return tuple([unlike(one) if isinstance(one, tuple) else one for one in part])


class Chooser:
    """Reads rows with a part; tells what was left where each part in it began."""

    def __init__(self, part):
        self.part = unlike(part)
        self.reader = reading.Reader(part)
        self.reader.part = self.part
        self.paths = {id(one): path for path, one in subparts(self.part)}
        self.begun = set()

    def read(self, length, chosen):
        """The outcome with these cells; raises Undecided."""
        numbers = numbers_for(self.part, length)
        plain = reading.Cursor, reading.look_by, reading.read_part

        def make(row):
            cursor = ChosenCursor(row)
            cursor.chosen = chosen
            return cursor

        def look_by(state, manner, *bounds):
            try:
                return plain[1](state, manner, *bounds)
            except Undecided as look:
                raise Undecided(look.place, look.options if bounds else numbers)

        def read_part(state, part):
            self.begun.add((self.paths[id(part)], state.cursor.left))
            return plain[2](state, part)

        reading.Cursor, reading.look_by, reading.read_part = make, look_by, read_part
        try:
            return self.reader([0] * length)
        finally:
            reading.Cursor, reading.look_by, reading.read_part = plain


def readings(choosers, length, most=20000):
    """For each way to choose the cells that are looked at: them, and the outcomes of all these; None if too many."""
    waiting, found, tried = [{}], [], 0
    while waiting:
        chosen = waiting.pop()
        tried += 1
        if tried > most:
            return None
        try:
            outcomes = [one.read(length, chosen) for one in choosers]
        except Undecided as look:
            waiting.extend({**chosen, look.place: option} for option in look.options)
        else:
            found.append((chosen, outcomes))
    return found
