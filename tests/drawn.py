"""Readers that are drawn, always the same for the same seed, and rows to read with them."""

import itertools
import random

from withinlimits.parts import MANNER_AT, counted_parts, is_part, parts_of, subparts, with_field, with_parts
from withinlimits.reading import Reader

KINDS = ("read", "refused", "beyond", "endless")


def drawn_manner(draw):
    return draw.choice(("checked", "bare"))


def drawn_bounds(draw):
    return draw.choice(((0, None), (0, None), (0, 0), (0, 1), (1, None), (1, 1), (2, 2), (0, 2), (3, 3)))


def drawn_most(draw, chance=0.5):
    return draw.randrange(4) if draw.random() < chance else None


def drawn_lone(draw):
    """A part without parts."""
    word = draw.choice(("cell", "cell", "cell", "cell", "need", "pad", "row"))
    if word == "cell":
        return ("cell", *drawn_bounds(draw), drawn_manner(draw))
    if word == "need":
        return ("need", draw.randrange(1, 4))
    if word == "pad":
        return ("pad", draw.choice((2, 2, 3)), drawn_manner(draw))
    return ("row", ())


def drawn_part(draw, deep):
    """A tuple like a part; it may be none for what is in it."""
    if deep == 0 or draw.random() < 0.15:
        return drawn_lone(draw)
    word = draw.choice(("row", "row", "row", "choice", "times", "counted", "counted", "within", "within", "within",
                        "fill", "fill", "if left"))
    if word == "row":
        return ("row", tuple(drawn_part(draw, deep - 1) for _ in range(draw.randrange(1, 4))))
    inner = drawn_part(draw, deep - 1)
    if word == "choice":
        numbers = sorted(draw.sample(range(4), draw.randrange(1, 3)))
        return ("choice", drawn_manner(draw), tuple((number, drawn_part(draw, deep - 1)) for number in numbers))
    if word == "times":
        return ("times", draw.randrange(0, 4), inner)
    if word == "counted":
        return ("counted", drawn_manner(draw), drawn_most(draw), drawn_most(draw), inner)
    if word == "within":
        limit = draw.choice(("nested", "cut", "told", "told"))
        return ("within", drawn_manner(draw), drawn_most(draw), limit, draw.choice(("skip", "exact")), inner)
    return (word, inner)


def drawn_readers(seed, many, deep=4, most_parts=9, most_counted=20):
    """This many readers with few parts."""
    draw = random.Random(seed)
    readers = []
    while len(readers) < many:
        part = drawn_part(draw, draw.randrange(1, deep + 1))
        if is_part(part) and len(subparts(part)) <= most_parts and counted_parts(part) <= most_counted:
            readers.append(Reader(part))
    return readers


def all_rows(length, cells):
    """All rows of a length over these cells."""
    return [list(row) for row in itertools.product(cells, repeat=length)]


def spread(part):
    """The spread of a part: how large it is for what is decided for all rows."""
    if part[0] in ("need", "pad"):
        return part[1]
    many = part[1] if part[0] == "times" else 1
    most = None
    if part[0] in ("counted", "within"):
        most = part[2]
    if part[0] == "counted" and most is not None:
        many = most
    total = 1 + many * sum(spread(inner) for inner in parts_of(part))
    if part[0] == "counted" and part[3] is not None:
        total = total + part[3]
    if part[0] == "within" and most is not None:
        total = total + most
    return total


def limits_in_one_another(part):
    return max([limits_in_one_another(inner) for inner in parts_of(part)] + [0]) + (part[0] == "within")


def large_part(draw, deep):
    """A tuple like a part, with many cells in its turns."""
    word = draw.choice(("cell", "cell", "row", "row", "choice", "choice", "times", "times", "times", "counted", "within",
                        "within", "fill", "fill", "fill", "if left", "need", "pad"))
    if deep == 0 or word == "cell":
        return ("cell", draw.choice((0, 0, 1)), draw.choice((None, 5)), drawn_manner(draw))
    if word == "need":
        return ("need", draw.randrange(1, 10))
    if word == "pad":
        return ("pad", draw.choice((2, 3)), drawn_manner(draw))
    if word == "row":
        return ("row", tuple(large_part(draw, deep - 1) for _ in range(draw.randrange(1, 4))))
    if word == "choice":
        parts = [large_part(draw, deep - 1) for _ in range(draw.randrange(1, 4))]
        return ("choice", drawn_manner(draw), tuple(enumerate(parts)))
    inner = large_part(draw, deep - 1)
    if word == "times":
        return ("times", draw.randrange(2, 7), inner)
    if word == "counted":
        return ("counted", drawn_manner(draw), draw.choice((None, None, 2, 9)), draw.choice((None, None, 0, 9)), inner)
    if word == "within":
        limit = draw.choice(("nested", "cut", "told"))
        return ("within", drawn_manner(draw), draw.choice((None, None, 20)), limit, draw.choice(("skip", "exact")), inner)
    return (word, inner)


def large_readers(seed, many):
    """This many readers about as large as those for which nothing is too large."""
    draw = random.Random(seed)
    readers = []
    while len(readers) < many:
        part = large_part(draw, 7)
        if (is_part(part) and 8 <= len(subparts(part)) <= 15 and 25 <= spread(part) <= 54
                and limits_in_one_another(part) <= 2):
            readers.append(Reader(part))
    return readers


def checked_part(draw, part, bare):
    """The part with checked looks, but for so many of a hundred."""
    inner = [checked_part(draw, one, bare) for one in parts_of(part)]
    part = with_parts(part, inner) if inner else part
    if part[0] in MANNER_AT:
        return with_field(part, MANNER_AT[part[0]], "bare" if draw.randrange(100) < bare else "checked")
    return part


def well_checked_readers(seed, many, bare=15, large=False):
    """This many readers, most of whose looks are checked, half of them within a limit."""
    draw = random.Random(seed)
    some = iter(large_readers(seed, many) if large else drawn_readers(seed, 3 * many, 5, 10, 24))
    readers = []
    while len(readers) < many:
        part = checked_part(draw, next(some).part, bare)
        if not large and draw.random() < 0.5:
            part = ("within", "checked", draw.choice((None, None, 0, 3)), draw.choice(("nested", "cut", "told")),
                    draw.choice(("skip", "exact")), part)
        if is_part(part):
            readers.append(Reader(part))
    return readers
