"""Points of two readers of one format that read a row side by side.

They do the same until a check is made by one of them alone. So each point of
the part is laid out three times: for both while they read alike, for the one
that goes on alone, and for the other. Where a check of only one of them fails
with cells left, or without, the points of both lead to those of that one which
goes on; where a look is a check of only one of them, they are parted at once.
"""

from withinlimits.parts import MANNER_AT, part_at, parts_of, size_of
from withinlimits.points import add_point, free_number, lay, rhythm_of

READERS = ("both", "one", "other")


class TwinLayout:
    """The points of what lies within one limit for two readers; by places if those of the endings matter."""

    def __init__(self, parts, path, is_by_places):
        self.points = [("twin end", reader) for reader in READERS]
        self.is_gap = False
        self.is_by_places = is_by_places
        self.rhythm = rhythm_of(parts[0])
        self.first = lay_twin(self, parts, path, [0, 1, 2])[0]


class TwinStudy:
    """What was found out of two readers of one format, as a Study of one reader."""

    def __init__(self, sides, is_by_places):
        self.sides = sides
        self.is_by_places = is_by_places
        self.layouts = {}
        self.tables = {}

    def laid_out(self, place, is_gap):
        """The layout of what lies within the limit at a place; in gaps two readers never part."""
        if (place, is_gap) not in self.layouts:
            path = () if place is None else (*place, 0)
            parts = [part_at(side.part, path) for side in self.sides]
            self.layouts[(place, is_gap)] = TwinLayout(parts, path, self.is_by_places)
        return self.layouts[(place, is_gap)]


def lay_twin_look(layout, parts, good, bad, behind):
    """A look of both, and those of each that goes on alone."""
    manners = [part[MANNER_AT[part[0]]] for part in parts]
    looks = [add_point(layout, ("twin look", manners[0] != manners[1], good, behind[0]))]
    for manner, after in zip(manners, behind[1:]):
        looks.append(add_point(layout, ("look", manner == "checked", good, bad, after)))
    return looks


def inner_parts(parts, index):
    """The parts number index of two parts."""
    return [parts_of(part)[index] for part in parts]


def lay_twin_cell(layout, parts, path, behind):
    return lay_twin_look(layout, parts, parts[0][1], None, behind)


def lay_twin_row(layout, parts, path, behind):
    for index in reversed(range(len(parts[0][1]))):
        behind = lay_twin(layout, inner_parts(parts, index), (*path, index), behind)
    return behind


def lay_twin_choice(layout, parts, path, behind):
    numbers = tuple([option[0] for option in parts[0][2]])
    inner = [lay_twin(layout, inner_parts(parts, index), (*path, index), behind) for index in range(len(numbers))]
    chosen = []
    for reader in range(3):
        firsts = tuple([option[reader] for option in inner])
        chosen.append(add_point(layout, ("choice", numbers, firsts)))
    return lay_twin_look(layout, parts, 0, free_number(numbers), chosen)


def lay_twin_times(layout, parts, path, behind):
    for turn in range(parts[0][1]):
        inner = lay_twin(layout, inner_parts(parts, 0), (*path, 0), behind)
        behind = [add_point(layout, ("turn", first)) for first in inner]
    return behind


def lay_openings(layout, word):
    """Points that are made anew once their turns are laid out, those of both last."""
    one = add_point(layout, (word,))
    other = add_point(layout, (word,))
    return [add_point(layout, (word,)), one, other]


def lay_endings(layout, loops):
    """The ends of loops, those of both last, since they ask for what comes of the others."""
    for loop in (loops[1], loops[2], loops[0]):
        add_point(layout, ("again", loop))


def lay_twin_turns(layout, parts, path, behind, asked):
    """The turns of a counted for which so much is asked ahead by both, by the one and by the other."""
    most = parts[0][2]
    inner = inner_parts(parts, 0)
    leaves = [0 if ahead is None else ahead for ahead in asked]
    enters = [0 if ahead is None else ahead + size_of(inner[0]) for ahead in asked]
    if most is None:
        loops = lay_openings(layout, "loop")
        body = lay_twin(layout, inner, (*path, 0), loops)
        for loop, leave, enter, part, first, after in zip(loops, leaves, enters, (inner[0], *inner), body, behind):
            layout.points[loop] = ("loop", leave, enter, part, first, after)
        lay_endings(layout, loops)
        return loops
    turns = [add_point(layout, ("leave", leave, after)) for leave, after in zip(leaves, behind)]
    for number in range(most):
        body = lay_twin(layout, inner, (*path, 0), turns)
        turns = [add_point(layout, ("enter", leave, enter, first, after))
                 for leave, enter, first, after in zip(leaves, enters, body, behind)]
    return turns


def lay_late(layout, part, path, behind, high):
    """The turns of a reader that goes on alone, since behind them fewer cells are left than the other asks for."""
    word, manner, most, ahead, inner = part
    size = size_of(inner)
    if layout.is_by_places:
        body = lay(layout, inner, (*path, 0), behind)
        return add_point(layout, ("late count", ahead, high, size, most, body, behind))
    first = add_point(layout, ("late", ahead, high, size, 0, behind, behind))
    if most is None:
        body = lay(layout, inner, (*path, 0), first)
        layout.points[first] = ("late", ahead, high, size, None, body, behind)
        add_point(layout, ("again", first))
        return first
    for room in range(1, most + 1):
        body = lay(layout, inner, (*path, 0), first)
        first = add_point(layout, ("late", ahead, high, size, room, body, behind))
    return first


def greater_ahead(one, other):
    """What is asked for ahead where both ask."""
    if one is None or other is None:
        return other if one is None else one
    return one if one > other else other


def lay_twin_counted(layout, parts, path, behind):
    aheads = [part[3] for part in parts]
    high = greater_ahead(aheads[0], aheads[1])
    turns = lay_twin_turns(layout, parts, path, behind, [high, *aheads])
    ways = [turns[0]]
    for reader in range(2):
        if aheads[reader] != high:
            ways.append(lay_late(layout, parts[reader], path, behind[reader + 1], high))
    turns[0] = add_point(layout, ("either", tuple(ways)))
    return lay_twin_look(layout, parts, 0, None, [add_point(layout, ("count", None, turn)) for turn in turns])


def lay_twin_within(layout, parts, path, behind):
    word, manner, most, limit, rest, inner = parts[0]
    # Where both make the same checks, they are alike behind the limit too.
    ends = READERS if inner != parts[1][5] else ("alike",)
    ways = [add_point(layout, ("twin within", path, most, rest, end, after)) for end, after in zip(ends, behind)]
    limited = [add_point(layout, ("either", tuple(ways)))]
    for side, after in enumerate(behind[1:]):
        # By places nothing behind a look of one alone matters.
        alone = ("side within", path, most, limit, rest, after, side)
        limited.append(after if layout.is_by_places else add_point(layout, alone))
    return lay_twin_look(layout, parts, 0, None, limited)


def lay_twin_fill(layout, parts, path, behind):
    loops = lay_openings(layout, "fill")
    body = lay_twin(layout, inner_parts(parts, 0), (*path, 0), loops)
    layout.points[loops[0]] = ("twin fill", body[0], behind[0])
    for part, loop, first, after in zip(parts, loops[1:], body[1:], behind[1:]):
        layout.points[loop] = ("fill", part[1], first, after)
    lay_endings(layout, loops)
    return loops


def lay_twin_if_left(layout, parts, path, behind):
    inner = lay_twin(layout, inner_parts(parts, 0), (*path, 0), behind)
    return [add_point(layout, ("if left", first, after)) for first, after in zip(inner, behind)]


def lay_twin_need(layout, parts, path, behind):
    numbers = [part[1] if part[0] == "need" else 0 for part in parts]
    alone = [add_point(layout, ("need", number, after)) for number, after in zip(numbers, behind[1:])]
    if numbers[0] == numbers[1]:
        return [add_point(layout, ("need", numbers[0], behind[0])), *alone]
    fewer, many = sorted([int(number) for number in numbers])
    goes_on = behind[1] if numbers[0] == fewer else behind[2]
    return [add_point(layout, ("twin need", fewer, many, behind[0], goes_on)), *alone]


def lay_twin_pad(layout, parts, path, behind):
    many = parts[0][1]
    pads = behind
    for number in range(many - 1):
        looks = lay_twin_look(layout, parts, 0, 1, pads)
        pads = [add_point(layout, ("pad", many, after, look)) for after, look in zip(behind, looks)]
    return pads


TWIN_LAYERS = {
    "cell": lay_twin_cell, "row": lay_twin_row, "choice": lay_twin_choice, "times": lay_twin_times,
    "counted": lay_twin_counted, "within": lay_twin_within, "fill": lay_twin_fill, "if left": lay_twin_if_left,
    "need": lay_twin_need, "pad": lay_twin_pad,
}


def lay_twin(layout, parts, path, behind):
    """The first points of a part for both readers, for the one and for the other, for the points behind it."""
    word = "need" if "need" in (parts[0][0], parts[1][0]) else parts[0][0]
    action = TWIN_LAYERS[word]
    return action(layout, parts, path, behind)
