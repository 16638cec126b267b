"""Rows with which a reading ends as asked, made along the marks of tables."""

from withinlimits.marks import can_leave_late, late_count, stops_inside
from withinlimits.points import idle_mask, zero_mask
from withinlimits.tables import can_end, has_mark, table_at


class Writer:
    """A row that is being made: its cells so far, and the counts whose turns still go on."""

    def __init__(self, study):
        self.study = study
        self.cells = []
        # For each such count its index among the cells; its cell has the number of turns so far.
        self.going = []
        self.has_stopped = False


class Place:
    """Where the writing is within one limit: a point, the cells left, and those that the limit has in all."""

    def __init__(self, table, length):
        self.table = table
        self.index = table.layout.first
        self.cells_left = length
        self.total = length


def holds(place, index, left):
    """Whether the reading can end as asked from a point with so many cells left."""
    return has_mark(place.table, index, left, place.total)


def has_rest(place, mask):
    """Whether the mask has what the limit has in all."""
    return bool(mask >> (place.total % place.table.layout.rhythm) & 1)


def write_end(writer, place, point):
    place.index = None


def write_cell(writer, place, cell, behind):
    """Go on behind one more cell."""
    writer.cells.append(cell)
    place.cells_left = place.cells_left - 1
    place.index = behind


def write_look(writer, place, point):
    word, is_checked, good, bad, behind = point
    if place.cells_left == 0:
        writer.has_stopped = True
    elif bad is not None and place.table.kind == "refused":
        writer.cells.append(bad)
        writer.has_stopped = True
    else:
        write_cell(writer, place, good, behind)
        writer.has_stopped = bool(place.table.last_look)


def write_choice(writer, place, point):
    word, numbers, inner = point
    for number, index in zip(numbers, inner):
        if holds(place, index, place.cells_left):
            writer.cells[-1] = number
            place.index = index
            return


def write_turn(writer, place, point):
    place.index = point[1]


def write_leave(writer, place, point):
    writer.going.pop()
    place.index = point[2]


def write_one_turn(writer, place, body):
    """Begin one more turn of the innermost count."""
    at = writer.going[-1]
    writer.cells[at] = writer.cells[at] + 1
    place.index = body


def can_leave(place, leave, behind):
    return place.cells_left >= leave and holds(place, behind, place.cells_left)


def write_enter(writer, place, point):
    word, leave, enter, body, behind = point
    if can_leave(place, leave, behind):
        writer.going.pop()
        place.index = behind
    else:
        write_one_turn(writer, place, body)


def write_loop(writer, place, point):
    word, leave, enter, inner, body, behind = point
    if can_leave(place, leave, behind):
        writer.going.pop()
        place.index = behind
        return
    write_one_turn(writer, place, body)
    if place.table.kind == "idle" and has_rest(place, idle_mask(inner, place.table.layout, place.cells_left)):
        writer.has_stopped = True


def write_count(writer, place, point):
    word, bound, turns = point
    if place.table.kind == "refused" and (bound is None or place.cells_left < bound):
        writer.cells[-1] = place.cells_left + 1
        writer.has_stopped = True
    else:
        writer.going.append(len(writer.cells) - 1)
        place.index = turns


def write_fill(writer, place, point):
    word, inner, body, behind = point
    layout = place.table.layout
    if place.cells_left == 0 and not layout.is_gap:
        place.index = behind
    elif place.table.endless and has_rest(place, idle_mask(inner, layout, place.cells_left)):
        writer.has_stopped = True
    else:
        place.index = body


def write_if_left(writer, place, point):
    word, inner, behind = point
    place.index = inner if place.cells_left > 0 or place.table.layout.is_gap else behind


def write_need(writer, place, point):
    word, many, behind = point
    if place.cells_left < many:
        writer.has_stopped = True
    else:
        place.index = behind


def write_pad(writer, place, point):
    word, many, behind, look = point
    zeros = zero_mask(many, place.table.layout.rhythm, place.cells_left)
    place.index = behind if has_rest(place, zeros) else look


def write_passed(writer, place, known):
    """Go through a limit of the least length with which the reading can end as asked behind it."""
    inner = table_at(known.study, known.pass_key)
    behind = known.skips.after
    many = 0
    while not can_end(inner, many) or not holds(place, behind, place.cells_left - many):
        many = many + 1
    writer.cells[-1] = many
    goal = len(writer.cells) + many
    write_within_limit(writer, inner, many)
    writer.cells.extend([0 for cell in range(goal - len(writer.cells))])
    place.cells_left = place.cells_left - many
    place.index = behind


def write_stopped(writer, table, many, length):
    """Stop within a limit of so many cells, of which length can be read."""
    writer.cells[-1] = many
    write_within_limit(writer, table, length)
    writer.has_stopped = True


def write_within(writer, place, point):
    known = place.table.limits[place.index]
    left = place.cells_left
    can_be_more = known.most is None or left < known.most
    if place.table.kind == "refused" and known.limit == "nested" and can_be_more:
        writer.cells[-1] = left + 1
        writer.has_stopped = True
    elif stops_inside(known, left):
        write_stopped(writer, table_at(known.study, known.stop_key), known.least_stop, known.least_stop)
    elif can_be_more and left in known.gaps:
        write_stopped(writer, table_at(known.study, known.gap_key), left + 1, left)
    else:
        write_passed(writer, place, known)


def write_twin_look(writer, place, point):
    word, is_parting, good, behind = point
    if place.cells_left == 0:
        writer.has_stopped = True
    else:
        write_cell(writer, place, good, behind)


def write_either(writer, place, point):
    for index in point[1]:
        if holds(place, index, place.cells_left):
            place.index = index
            return


def write_late(writer, place, point):
    word, ahead, high, size, room, body, behind = point
    if can_leave_late(point, place.cells_left) and holds(place, behind, place.cells_left):
        writer.going.pop()
        place.index = behind
    else:
        write_one_turn(writer, place, body)


def write_late_count(writer, place, point):
    word, ahead, high, size, most, body, behind = point
    at = writer.going.pop()
    if can_leave_late(point, place.cells_left) and holds(place, behind, place.cells_left):
        place.index = behind
    else:
        writer.cells[at] = late_count(point, place.cells_left)
        place.index = body


def write_twin_fill(writer, place, point):
    place.index = point[-1] if place.cells_left == 0 else point[-2]


def write_twin_need(writer, place, point):
    word, fewer, many, behind, alone = point
    place.index = behind if place.cells_left >= many else alone


WRITINGS = {
    "end": write_end, "look": write_look, "choice": write_choice, "turn": write_turn, "leave": write_leave,
    "enter": write_enter, "count": write_count, "loop": write_loop, "fill": write_fill, "if left": write_if_left,
    "need": write_need, "pad": write_pad, "within": write_within,
    "twin end": write_end, "twin look": write_twin_look, "either": write_either, "late": write_late,
    "late count": write_late_count, "twin fill": write_twin_fill, "twin need": write_twin_need,
    "side within": write_within, "twin within": write_within,
}


def write_within_limit(writer, table, length):
    """Write on within a limit of this length, until the reading stops or is through."""
    place = Place(table, length)
    while place.index is not None and not writer.has_stopped:
        point = table.layout.points[place.index]
        action = WRITINGS[point[0]]
        action(writer, place, point)


def written(study, key, length):
    """The writer of a row of this length with which the reading ends as a table asks, which it must be able to."""
    writer = Writer(study)
    write_within_limit(writer, table_at(study, key), length)
    writer.cells.extend([0 for cell in range(length - len(writer.cells))])
    return writer
