"""Readers of rows: a reader reads a row by its part, and its outcome tells how that ended."""

from withinlimits.cells import Cursor
from withinlimits.errors import Beyond, Endless, NoPart, NoWord, Refused
from withinlimits.parts import (
    MOST_COUNTED, MOST_DEEP, MOST_PARTS, counted_parts, has_form, parts_of, size_of, subparts, suits_its_part)
from withinlimits.points import Study


def first_wrong(part, path):
    """The path of the first wrong part, for a part at a path; None if none is wrong."""
    if len(path) >= MOST_DEEP or not has_form(part):
        return path
    for index, inner in enumerate(parts_of(part)):
        wrong = first_wrong(inner, (*path, index))
        if wrong is not None:
            return wrong
    return None if suits_its_part(part) else path


def check_part(part):
    """Raise NoPart unless this is a part."""
    wrong = first_wrong(part, ())
    if wrong is not None:
        raise NoPart(wrong)
    if len(subparts(part)) > MOST_PARTS or counted_parts(part) > MOST_COUNTED:
        raise NoPart(())


def check_reader(reader):
    """Raise NoWord unless this is a reader."""
    if not isinstance(reader, Reader):
        raise NoWord(reader)


class Reading:
    """How far the reading of a row has come: its cursor, the counts and lengths so far, and the turns."""

    def __init__(self, row):
        self.cursor = Cursor(row)
        self.counts = []
        self.turns = 0


def look_by(reading, manner, low=0, high=None):
    """The next cell, looked at in this manner."""
    if manner == "checked":
        return reading.cursor.look(low, high)
    return reading.cursor.bare(low, high)


def read_number(reading, manner, most):
    """The next cell, a count or a length."""
    place = reading.cursor.at
    number = look_by(reading, manner)
    if most is not None and number > most:
        raise Refused(place, "most")
    reading.counts.append(number)
    return number


def take_turn(reading, part):
    reading.turns = reading.turns + 1
    read_part(reading, part)


def read_cell(reading, part):
    word, low, high, manner = part
    look_by(reading, manner, low, high)


def read_row(reading, part):
    for inner in part[1]:
        read_part(reading, inner)


def read_choice(reading, part):
    word, manner, options = part
    place = reading.cursor.at
    chosen = look_by(reading, manner)
    for number, inner in options:
        if number == chosen:
            read_part(reading, inner)
            return
    raise Refused(place, "value")


def read_times(reading, part):
    word, many, inner = part
    for turn in range(many):
        take_turn(reading, inner)


def read_counted(reading, part):
    word, manner, most, ahead, inner = part
    many = read_number(reading, manner, most)
    if ahead is not None:
        reading.cursor.need(many * size_of(inner) + ahead)
    done = 0
    while done < many:
        looks, turns = reading.cursor.looks, reading.turns
        take_turn(reading, inner)
        done = done + 1
        if reading.cursor.looks == looks:
            # Nothing has changed, so the turns that are left would each be like this one.
            reading.turns = reading.turns + (many - done) * (reading.turns - turns)
            done = many


def read_within(reading, part):
    word, manner, most, limit, rest, inner = part
    many = read_number(reading, manner, most)
    around = reading.cursor.within(many, limit=limit)
    with around:
        read_part(reading, inner)
    reading.cursor.behind(around, rest=rest)


def read_fill(reading, part):
    cursor = reading.cursor
    while cursor.left > 0:
        looks = cursor.looks
        take_turn(reading, part[1])
        if cursor.looks == looks:
            raise Endless(cursor.at)


def read_if_left(reading, part):
    if reading.cursor.left > 0:
        read_part(reading, part[1])


def read_need(reading, part):
    reading.cursor.need(part[1])


def read_pad(reading, part):
    word, many, manner = part
    while reading.cursor.inside % many != 0:
        look_by(reading, manner, 0, 0)


READINGS = {
    "cell": read_cell, "row": read_row, "choice": read_choice, "times": read_times, "counted": read_counted,
    "within": read_within, "fill": read_fill, "if left": read_if_left, "need": read_need, "pad": read_pad,
}


def read_part(reading, part):
    """Read on by a part; raises one of the errors of a reading that stops."""
    action = READINGS[part[0]]
    action(reading, part)


def outcome_of(reading, kind, at, why=""):
    return Outcome(kind, at, why, tuple(reading.counts), reading.cursor.looks, reading.turns)


class Outcome:
    """How the reading of a row ended; it is True if the row was read."""

    def __init__(self, kind, at, why, counts, looks, turns):
        self.kind = kind
        self.at = at
        self.why = why
        self.counts = counts
        self.looks = looks
        self.turns = turns
        self.work = looks + turns

    @property
    def numbers(self):
        """A new list of the counts and lengths that were read, in order."""
        return list(self.counts)

    def told(self):
        """The tuple of all that the outcome tells."""
        return self.kind, self.at, self.why, self.counts, self.looks, self.turns

    def __bool__(self):
        return bool(self.kind == "read")

    def __eq__(self, other):
        return (isinstance(other, Outcome) and self.kind == other.kind and self.at == other.at
                and self.why == other.why and self.counts == other.counts and self.looks == other.looks
                and self.turns == other.turns)


class Reader:
    """A reader of rows by a part."""

    def __init__(self, part):
        check_part(part)
        self.part = part
        # What is found out of the part for all rows is kept here, so that it is found out once.
        self.study = Study(part)

    def __call__(self, row):
        reading = Reading(row)
        try:
            read_part(reading, self.part)
        except Refused as refusal:
            return outcome_of(reading, "refused", refusal.place, refusal.reason)
        except Beyond as look:
            return outcome_of(reading, "beyond", look.place)
        except Endless as turn:
            return outcome_of(reading, "endless", turn.place)
        return outcome_of(reading, "read", reading.cursor.at)

    def __eq__(self, other):
        return isinstance(other, Reader) and self.part == other.part
