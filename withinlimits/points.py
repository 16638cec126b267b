"""Points of a part: the places in it at which a reading can be, with what it does there.

The cells of a row can be any numbers, and each is looked at once at most. So
how a reading can go on from a point hangs only on the number of cells that
are left (in a gap: up to the end of what is around) and, for the pads, on
how many lie behind it in the innermost limit.

The points of a part are laid out backwards, each one behind those to which
the reading can go from it without a look, but for the ends of loops. They are
tuples of a word and what belongs to it; other points are told by their index.
"""

from withinlimits.errors import TooLarge
from withinlimits.parts import part_at, parts_of, size_of
from withinlimits.plain import common_multiple

MOST_POINTS = 20000


def rhythm_of(part):
    """The least common multiple of the numbers of the pads in a part, those in limits in it not counted."""
    if part[0] == "pad":
        return part[1]
    rhythm = 1
    if part[0] != "within":
        for inner in parts_of(part):
            rhythm = common_multiple(rhythm, rhythm_of(inner))
    return rhythm


class Layout:
    """The points of what lies within one limit, in the order in which they can be decided."""

    def __init__(self, part, path, is_gap):
        self.points = [("end",)]
        self.is_gap = is_gap
        self.is_by_places = False
        self.rhythm = rhythm_of(part)
        self.first = lay(self, part, path, 0)


def add_point(layout, point):
    """The index of a new point."""
    if len(layout.points) >= MOST_POINTS:
        raise TooLarge("points")
    layout.points.append(point)
    return len(layout.points) - 1


def lay_look(layout, manner, good, bad, behind):
    """A look: a cell that lets the reading go on, one that is refused or None, and the point behind it."""
    # In a gap the limit itself has cells left, so a check finds nothing wrong.
    is_checked = manner == "checked" and not layout.is_gap
    return add_point(layout, ("look", is_checked, good, bad, behind))


def lay_cell(layout, part, path, behind):
    word, low, high, manner = part
    bad = None if high is None else high + 1
    return lay_look(layout, manner, low, low - 1 if low > 0 else bad, behind)


def lay_row(layout, part, path, behind):
    for index in reversed(range(len(part[1]))):
        behind = lay(layout, part[1][index], (*path, index), behind)
    return behind


def free_number(numbers):
    """The least integer from 0 on that is none of these."""
    free = 0
    while free in numbers:
        free = free + 1
    return free


def lay_choice(layout, part, path, behind):
    word, manner, options = part
    numbers = tuple([option[0] for option in options])
    inner = [lay(layout, option[1], (*path, index), behind) for index, option in enumerate(options)]
    chosen = add_point(layout, ("choice", numbers, tuple(inner)))
    return lay_look(layout, manner, 0, free_number(numbers), chosen)


def lay_times(layout, part, path, behind):
    word, many, inner = part
    for turn in range(many):
        behind = add_point(layout, ("turn", lay(layout, inner, (*path, 0), behind)))
    return behind


def lay_loop(layout, inner, path, behind, leave, enter):
    """Turns without a greatest number: there is a turn only with enter cells left, and an end with leave."""
    loop = add_point(layout, ("loop",))
    body = lay(layout, inner, path, loop)
    layout.points[loop] = ("loop", leave, enter, inner, body, behind)
    add_point(layout, ("again", loop))
    return loop


def lay_turns(layout, inner, path, behind, leave, enter, most):
    """Turns with a greatest number: each is laid out on its own."""
    turn = add_point(layout, ("leave", leave, behind))
    for number in range(most):
        body = lay(layout, inner, path, turn)
        turn = add_point(layout, ("enter", leave, enter, body, behind))
    return turn


def lay_counted(layout, part, path, behind):
    word, manner, most, ahead, inner = part
    leave = 0 if ahead is None else ahead
    size = 0 if ahead is None else size_of(inner)
    if most is None:
        turns = lay_loop(layout, inner, (*path, 0), behind, leave, leave + size)
    else:
        turns = lay_turns(layout, inner, (*path, 0), behind, leave, leave + size, most)
    # Below so many cells left the count can be too great for them. With a most, one above it is refused anyway.
    bound = None if most is None and size > 0 else leave
    return lay_look(layout, manner, 0, None if most is None else most + 1, add_point(layout, ("count", bound, turns)))


def lay_within(layout, part, path, behind):
    word, manner, most, limit, rest, inner = part
    limited = add_point(layout, ("within", path, most, limit, rest, behind))
    return lay_look(layout, manner, 0, None if most is None else most + 1, limited)


def lay_fill(layout, part, path, behind):
    loop = add_point(layout, ("fill",))
    body = lay(layout, part[1], (*path, 0), loop)
    layout.points[loop] = ("fill", part[1], body, behind)
    add_point(layout, ("again", loop))
    return loop


def lay_if_left(layout, part, path, behind):
    return add_point(layout, ("if left", lay(layout, part[1], (*path, 0), behind), behind))


def lay_need(layout, part, path, behind):
    return add_point(layout, ("need", part[1], behind))


def lay_pad(layout, part, path, behind):
    word, many, manner = part
    pad = behind
    for number in range(many - 1):
        pad = add_point(layout, ("pad", many, behind, lay_look(layout, manner, 0, 1, pad)))
    return pad


LAYERS = {
    "cell": lay_cell, "row": lay_row, "choice": lay_choice, "times": lay_times, "counted": lay_counted,
    "within": lay_within, "fill": lay_fill, "if left": lay_if_left, "need": lay_need, "pad": lay_pad,
}


def lay(layout, part, path, behind):
    """The first point of a part, for the point behind it."""
    action = LAYERS[part[0]]
    return action(layout, part, path, behind)


class Study:
    """What was found out of a part: kept, since each question on it asks for much of the same."""

    def __init__(self, part):
        self.part = part
        self.layouts = {}
        self.tables = {}
        self.efforts = {}

    def laid_out(self, place, is_gap):
        """The layout of what lies within the limit at a place: the path of a within, or None for the row."""
        if (place, is_gap) not in self.layouts:
            path = () if place is None else (*place, 0)
            self.layouts[(place, is_gap)] = Layout(part_at(self.part, path), path, is_gap)
        return self.layouts[(place, is_gap)]


def zero_mask(many, rhythm, left):
    """For which rests of what the limit has in all, with so many cells left, a multiple of many lies behind."""
    mask = 0
    for rest in range(left % many, rhythm, many):
        mask = mask | 1 << rest
    return mask


def idle_mask(part, layout, left):
    """For which rests of what the limit has in all a part is read without a look."""
    whole = (1 << layout.rhythm) - 1
    word = part[0]
    if word == "row":
        mask = whole
        for inner in part[1]:
            mask = mask & idle_mask(inner, layout, left)
        return mask
    if word == "times":
        return idle_mask(part[2], layout, left) if part[1] > 0 else whole
    if word == "pad":
        return zero_mask(part[1], layout.rhythm, left)
    if word == "need":
        return whole if left >= part[1] else 0
    # In a gap the limit always has cells left.
    if word in ("fill", "if left") and left == 0 and not layout.is_gap:
        return whole
    return idle_mask(part[1], layout, left) if word == "if left" else 0


def idle_turns(part):
    """How many turns there are in a part that is read without a look, with cells left."""
    if part[0] == "row":
        return sum([idle_turns(inner) for inner in part[1]])
    if part[0] == "times":
        return part[1] * (1 + idle_turns(part[2]))
    return idle_turns(part[1]) if part[0] == "if left" else 0
