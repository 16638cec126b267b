"""Two readers of one format, held against each other."""

from withinlimits.errors import NoWord
from withinlimits.parts import MANNER_AT, parts_of, with_field, with_parts
from withinlimits.reading import Reader, check_reader
from withinlimits.sites import is_same_format
from withinlimits.tables import least_length, table_at
from withinlimits.twins import TwinStudy, greater_ahead
from withinlimits.witness import written

PARTED = (None, "parted", "always", False)


def check_pair(reader, other):
    """Raise NoWord unless these are readers of one format."""
    check_reader(reader)
    check_reader(other)
    if not is_same_format(reader, other):
        raise NoWord(other)


def differs(reader, other, row, *, places=True):
    """Whether the outcomes of a row differ: in their kinds, by places also in where and why."""
    one, two = reader(row), other(row)
    if one.kind != two.kind:
        return True
    return bool(places) and (one.at != two.at or one.why != two.why)


def parted(reader, other, *, places=True):
    """A row with the fewest cells of which the outcomes differ, or None."""
    check_pair(reader, other)
    if reader == other:
        return None
    study = TwinStudy((reader.study, other.study), bool(places))
    length = least_length(table_at(study, PARTED))
    return None if length is None else written(study, PARTED, length).cells


def are_alike(reader, other, *, places=True):
    """Whether the outcomes differ with no row."""
    return parted(reader, other, places=places) is None


def both_needs(one, other):
    """The need that two parts make together, at least one of which is a need."""
    numbers = [part[1] for part in (one, other) if part[0] == "need"]
    return ("need", max([int(number) for number in numbers]))


def both_checks(one, other):
    """The part that makes the checks of two that are the same but for their checks."""
    if "need" in (one[0], other[0]):
        return both_needs(one, other)
    inner = [both_checks(mine, yours) for mine, yours in zip(parts_of(one), parts_of(other))]
    part = with_parts(one, inner) if len(inner) > 0 else one
    if part[0] in MANNER_AT and other[MANNER_AT[part[0]]] == "checked":
        part = with_field(part, MANNER_AT[part[0]], "checked")
    if part[0] == "counted":
        part = with_field(part, 3, greater_ahead(one[3], other[3]))
    return part


def union_of(reader, other):
    """The reader that makes the checks of both."""
    check_pair(reader, other)
    return Reader(both_checks(reader.part, other.part))
