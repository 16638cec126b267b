"""Parts of readers: which tuples are parts, their sizes, and the parts in them."""

from withinlimits.cells import LIMITS, RESTS
from withinlimits.plain import is_from, is_from_or_none, is_one_of

MANNERS = ("checked", "bare")
# The parts that look at cells themselves, with the places of their manners.
MANNER_AT = {"cell": 3, "choice": 1, "counted": 1, "within": 1, "pad": 2}
HOLDERS = ("times", "counted", "within", "fill", "if left")
MOST_CELL_BOUND = 10 ** 6
MOST_DEEP = 8
MOST_PARTS = 60
MOST_COUNTED = 1000


def is_cell(part):
    word, low, high, manner = part
    return (is_from(low, 0, MOST_CELL_BOUND) and is_from_or_none(high, low, MOST_CELL_BOUND)
            and is_one_of(manner, MANNERS))


def is_row(part):
    word, parts = part
    return isinstance(parts, tuple) and len(parts) <= 12


def is_choice(part):
    word, manner, options = part
    if not is_one_of(manner, MANNERS) or not isinstance(options, tuple) or not 1 <= len(options) <= 6:
        return False
    low = 0
    for option in options:
        if not isinstance(option, tuple) or len(option) != 2 or not is_from(option[0], low, 99):
            return False
        low = option[0] + 1
    return True


def is_times(part):
    return is_from(part[1], 0, 6)


def is_counted(part):
    word, manner, most, ahead, counted = part
    return is_one_of(manner, MANNERS) and is_from_or_none(most, 0, 9) and is_from_or_none(ahead, 0, 9)


def is_within(part):
    word, manner, most, limit, rest, inner = part
    return (is_one_of(manner, MANNERS) and is_from_or_none(most, 0, 20)
            and is_one_of(limit, LIMITS) and is_one_of(rest, RESTS))


def is_holder(part):
    return True


def is_need(part):
    return is_from(part[1], 1, 9)


def is_pad(part):
    word, many, manner = part
    return is_from(many, 2, 6) and is_one_of(manner, MANNERS)


LENGTHS = {
    "cell": 4, "row": 2, "choice": 3, "times": 3, "counted": 5,
    "within": 6, "fill": 2, "if left": 2, "need": 2, "pad": 3,
}

FORMS = {
    "cell": is_cell, "row": is_row, "choice": is_choice, "times": is_times, "counted": is_counted,
    "within": is_within, "fill": is_holder, "if left": is_holder, "need": is_need, "pad": is_pad,
}


def has_form(thing):
    """Whether this is a part so far as can be told without a look at the parts of it."""
    if not isinstance(thing, tuple) or len(thing) == 0 or not isinstance(thing[0], str):
        return False
    word = thing[0]
    if word not in FORMS or len(thing) != LENGTHS[word]:
        return False
    form = FORMS[word]
    return form(thing)


def is_barred_from_told(part):
    """Whether this part may not stand in a told limit."""
    return part[0] in ("within", "need") or (part[0] == "counted" and part[3] is not None)


def suits_its_part(part):
    """Whether a part, all of whose parts are right, may have in it what it has."""
    if part[0] == "counted" and part[3] is not None:
        return size_of(part[4]) is not None
    if part[0] == "within" and part[3] == "told":
        return not any([is_barred_from_told(inner) for path, inner in subparts(part[5])])
    return True


def counted_parts(part):
    """How many parts there are in it, those in a times counted so many times as it says."""
    inner = sum([counted_parts(one) for one in parts_of(part)])
    if part[0] == "times":
        return 1 + part[1] * inner
    return 1 + inner


def is_part(thing):
    """Whether any object is a part."""
    waiting = [(thing, 1)]
    many = 0
    # Counted on the way, since few tuples that are shared can make very many parts.
    while waiting:
        part, deep = waiting.pop()
        many = many + 1
        if many > MOST_PARTS or deep > MOST_DEEP or not has_form(part):
            return False
        waiting.extend([(inner, deep + 1) for inner in parts_of(part)])
    if counted_parts(thing) > MOST_COUNTED:
        return False
    return all([suits_its_part(part) for path, part in subparts(thing)])


def size_of(part):
    """The number of cells that a part always reads, or None."""
    word = part[0]
    if word == "cell":
        return 1
    if word == "need":
        return 0
    if word not in ("row", "choice", "times"):
        return None
    sizes = [size_of(inner) for inner in parts_of(part)]
    if None in sizes:
        return None
    if word == "row":
        return sum(sizes)
    if word == "times":
        return part[1] * sizes[0]
    return 1 + sizes[0] if all([size == sizes[0] for size in sizes]) else None


def parts_of(part):
    """A new list of the parts that stand directly in a part."""
    if part[0] == "row":
        return list(part[1])
    if part[0] == "choice":
        return [option[1] for option in part[2]]
    if part[0] in HOLDERS:
        return [part[-1]]
    return []


def with_parts(part, parts):
    """The part with these, as many as it has, in the places of those that stand directly in it."""
    if part[0] == "row":
        return ("row", tuple(parts))
    if part[0] == "choice":
        options = [(option[0], inner) for option, inner in zip(part[2], parts)]
        return ("choice", part[1], tuple(options))
    return (*part[:-1], parts[0])


def subparts(part):
    """The pairs (path, part) of a part and of all in it, each ahead of those in it."""
    pairs = [((), part)]
    for index, inner in enumerate(parts_of(part)):
        pairs.extend([((index, *path), one) for path, one in subparts(inner)])
    return pairs


def part_at(part, path):
    """The part to which a path leads."""
    for index in path:
        part = parts_of(part)[index]
    return part


def leads(part, path):
    """Whether any object is a path that leads to a part in this one."""
    if not isinstance(path, tuple):
        return False
    for index in path:
        parts = parts_of(part)
        if not is_from(index, 0, len(parts) - 1):
            return False
        part = parts[index]
    return True


def limits_around(part, path):
    """The paths of the withins in which the part at a path is, the outermost one first."""
    ahead = [path[:many] for many in range(len(path))]
    return [one for one in ahead if part_at(part, one)[0] == "within"]


def is_in_told(part, path):
    """Whether the part at a path is in a told limit."""
    return any([part_at(part, one)[3] == "told" for one in limits_around(part, path)])


def with_field(part, place, value):
    """The part with a value in one of its places."""
    return (*part[:place], value, *part[place + 1:])


def replaced(part, path, other):
    """The part with another one at a path, also where this makes no part."""
    if len(path) == 0:
        return other
    parts = parts_of(part)
    parts[path[0]] = replaced(parts[path[0]], path[1:], other)
    return with_parts(part, parts)
