"""Checks of readers: which there are, readers without some of them, and which are needed."""

from withinlimits.errors import NoWord, TooLarge
from withinlimits.lengths import lengths_of
from withinlimits.parts import (
    MANNER_AT, is_in_told, leads, part_at, parts_of, replaced, size_of, subparts, with_field, with_parts)
from withinlimits.plain import index_lists, is_one_of
from withinlimits.reading import Reader

MOST_CHECKS = 8
NOTHING = ("row", ())


def check_words(part):
    """The words of the checks that a part itself makes."""
    if part[0] == "need":
        return ["need"]
    words = []
    if part[0] in MANNER_AT and part[MANNER_AT[part[0]]] == "checked":
        words.append("look")
    if part[0] == "counted" and part[3] is not None:
        words.append("ahead")
    return words


def checks_of(part):
    """All checks of a part and of those in it."""
    return [(path, word) for path, one in subparts(part) for word in check_words(one)]


def is_check(part, thing):
    """Whether any object is a check of a part or of one in it."""
    if not isinstance(thing, tuple) or len(thing) != 2 or not leads(part, thing[0]):
        return False
    return is_one_of(thing[1], check_words(part_at(part, thing[0])))


def uncheck(part, path, gone):
    """The part at a path without the checks that a dict has as keys."""
    if part[0] == "need":
        return NOTHING if (path, "need") in gone else part
    inner = [uncheck(one, (*path, index), gone) for index, one in enumerate(parts_of(part))]
    if len(inner) > 0:
        part = with_parts(part, inner)
    if (path, "look") in gone:
        part = with_field(part, MANNER_AT[part[0]], "bare")
    if (path, "ahead") in gone:
        part = with_field(part, 3, None)
    return part


def without_checks(part, checks):
    """The part without these of its checks."""
    return uncheck(part, (), {check: True for check in checks})


def must_have(reader, checks):
    """Raise NoWord with the first object that is no check of the reader."""
    for check in checks:
        if not is_check(reader.part, check):
            raise NoWord(check)


def sites(reader):
    """The list of the checks of a reader."""
    return checks_of(reader.part)


def without(reader, *checks):
    """The reader without these checks."""
    must_have(reader, checks)
    return Reader(without_checks(reader.part, checks))


def kept(reader, *checks):
    """The reader without all other checks."""
    must_have(reader, checks)
    return Reader(without_checks(reader.part, [check for check in sites(reader) if check not in checks]))


def format_of(reader):
    """The reader without any check."""
    return Reader(without_checks(reader.part, sites(reader)))


def is_same_format(reader, other):
    """Whether two readers are the same but for their checks."""
    return format_of(reader) == format_of(other)


def looks_never(reader):
    """Whether a reader looks beyond with no row."""
    return not lengths_of(reader, "beyond")


def looks_never_with(reader, checks):
    """Whether a reader with these checks alone looks beyond with no row."""
    return looks_never(kept(reader, *checks))


def least_sets(reader):
    """The lists of checks that are enough, while no part of them is."""
    checks = sites(reader)
    if len(checks) > MOST_CHECKS:
        raise TooLarge("sites")
    if not looks_never(reader):
        return []
    # One more check never brings a look beyond, so what cannot be left out alone is in each of the sets.
    needed = [index for index, check in enumerate(checks) if not looks_never(without(reader, check))]
    found = []
    for chosen in index_lists(len(checks)):
        if not all([index in chosen for index in needed]):
            continue
        if any([all([index in chosen for index in one]) for one in found]):
            continue
        if looks_never_with(reader, [checks[index] for index in chosen]):
            found.append(chosen)
    return [[checks[index] for index in chosen] for chosen in found]


def fewest(reader):
    """How many checks are needed at least, or None if all of them are not enough."""
    found = least_sets(reader)
    return len(found[0]) if len(found) > 0 else None


def idle_sites(reader):
    """The checks each of which could be left out alone."""
    if not looks_never(reader):
        return []
    return [check for check in sites(reader) if looks_never(without(reader, check))]


def hoisted(reader, path):
    """The reader in which a counted part asks ahead for all cells that its turns look at."""
    if not leads(reader.part, path) or is_in_told(reader.part, path):
        raise NoWord(path)
    part = part_at(reader.part, path)
    if part[0] != "counted" or size_of(part[4]) is None:
        raise NoWord(path)
    word, manner, most, ahead, inner = part
    looks = [check for check in checks_of(inner) if check[1] == "look"]
    ahead = 0 if ahead is None else ahead
    return Reader(replaced(reader.part, path, (word, manner, most, ahead, without_checks(inner, looks))))
