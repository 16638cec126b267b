"""Cursors, which read the cells of a row within limits."""

from withinlimits.errors import Beyond, NoRow, NoWord, Refused
from withinlimits.plain import is_from, is_from_or_none, is_one_of

MOST_CELLS = 10000
MOST_CELL = 10 ** 30
LIMITS = ("nested", "cut", "told")
RESTS = ("skip", "exact")


def check_row(row):
    """Raise NoRow unless this is a row."""
    if not isinstance(row, list) or len(row) > MOST_CELLS:
        raise NoRow(None)
    for index, cell in enumerate(row):
        if not is_from(cell, 0, MOST_CELL):
            raise NoRow(index)


def check_bounds(low, high):
    """Raise NoWord unless these can be the bounds of a look."""
    if not is_from(low, 0):
        raise NoWord(low)
    if not is_from_or_none(high, low):
        raise NoWord(high)


def check_limit(limit):
    """Raise NoWord unless this is a limit."""
    if not isinstance(limit, Limit):
        raise NoWord(limit)


class Limit:
    """A limit of a cursor within the block of a with statement, from the present position to an end."""

    def __init__(self, cursor, outer, end):
        self.cursor = cursor
        self.outer = outer
        self.origin = cursor.at
        self.end = end
        self.level = 0 if outer is None else outer.level + 1
        # A told limit can end behind those around it, so the nearest end is not always the innermost one.
        self.reach = end if outer is None or end < outer.reach else outer.reach

    def __enter__(self):
        self.cursor.innermost = self
        return self.cursor

    def __exit__(self, kind, value, trace):
        self.cursor.innermost = self.outer


class Cursor:
    """A position in a row, with limits around it."""

    def __init__(self, row):
        check_row(row)
        self.cells = tuple(row)
        self.at = 0
        self.looks = 0
        self.innermost = Limit(self, None, len(self.cells))

    def __len__(self):
        return len(self.cells)

    @property
    def left(self):
        """The innermost limit's end less the position."""
        return self.innermost.end - self.at

    @property
    def inside(self):
        """The position less the one at which the innermost limit begins."""
        return self.at - self.innermost.origin

    @property
    def depth(self):
        """The number of limits; the row is not counted."""
        return self.innermost.level

    def look(self, low=0, high=None):
        """Look at the next cell, which is refused if none is left within the innermost limit."""
        check_bounds(low, high)
        self.need(1)
        return self.bare(low, high)

    def bare(self, low=0, high=None):
        """Look at the next cell, whether or not one is left."""
        check_bounds(low, high)
        if self.at >= self.innermost.reach:
            raise Beyond(self.at)
        self.looks = self.looks + 1
        cell = self.cells[self.at]
        if not is_from(cell, low, high):
            raise Refused(self.at, "value")
        self.at = self.at + 1
        return cell

    def need(self, many):
        """Refuse the row if fewer cells than this are left."""
        if not is_from(many, 0):
            raise NoWord(many)
        if self.left < many:
            raise Refused(self.at, "short")

    def within(self, many, *, limit="nested"):
        """A limit that ends this many cells behind the position."""
        if not is_from(many, 0, MOST_CELL):
            raise NoWord(many)
        if not is_one_of(limit, LIMITS):
            raise NoWord(limit)
        end = self.at + many
        if limit == "nested" and many > self.left:
            raise Refused(self.at, "nested")
        if limit == "cut" and many > self.left:
            end = self.innermost.end
        return Limit(self, self.innermost, end)

    def during(self, limit, call):
        """What call returns for the cursor within a limit."""
        check_limit(limit)
        with limit as same:
            return call(same)

    def behind(self, limit, *, rest="skip"):
        """Go on behind a limit whose block was just left."""
        check_limit(limit)
        if not is_one_of(rest, RESTS):
            raise NoWord(rest)
        if rest == "exact" and self.at != limit.end:
            raise Refused(self.at, "exact")
        if limit.end > self.innermost.reach:
            raise Refused(self.at, "past")
        self.at = limit.end
