"""Marks of points: for a number of cells left, those rests with which a reading can end as a table asks.

Each is made of the marks of points that are decided already, for as many cells
left (now) or for one cell less (before). In tables of two readers each point
has its place in one of three layouts: that of both while they read alike, and
those of the one and of the other while it alone goes on.
"""

from withinlimits.points import idle_mask, zero_mask


def end_mark(table, left):
    if table.ends == "always" or (table.ends == "at end" and left == 0) or (table.ends == "left over" and left > 0):
        return table.whole
    return 0


def mark_end(table, now, before, left, index, point):
    return end_mark(table, left)


def mark_twin_end(table, now, before, left, index, point):
    reader = point[1]
    counts = reader == table.kind
    if table.kind == "parted":
        counts = reader != "both"
    return end_mark(table, left) if counts else 0


def mark_look(table, now, before, left, index, point):
    word, is_checked, good, bad, behind = point
    if left == 0:
        return table.refused if is_checked else table.beyond
    if table.last_look is not None:
        return table.last_look
    return before[behind] if bad is None else before[behind] | table.refused


def mark_twin_look(table, now, before, left, index, point):
    word, is_parting, good, behind = point
    if left == 0:
        return table.beyond if is_parting else 0
    return before[behind]


def mark_choice(table, now, before, left, index, point):
    mark = 0
    for inner in point[2]:
        mark = mark | now[inner]
    return mark


def mark_either(table, now, before, left, index, point):
    mark = 0
    for other in point[1]:
        mark = mark | now[other]
    return mark


def mark_turn(table, now, before, left, index, point):
    return now[point[1]]


def mark_leave(table, now, before, left, index, point):
    word, leave, behind = point
    return now[behind] if left >= leave else 0


def mark_enter(table, now, before, left, index, point):
    word, leave, enter, body, behind = point
    mark = now[behind] if left >= leave else 0
    return mark | now[body] if left >= enter else mark


def mark_count(table, now, before, left, index, point):
    word, bound, turns = point
    return now[turns] | table.refused if bound is None or left < bound else now[turns]


def mark_loop(table, now, before, left, index, point):
    word, leave, enter, inner, body, behind = point
    mark = now[behind] if left >= leave else 0
    if table.kind == "idle" and left >= enter:
        mark = mark | idle_mask(inner, table.layout, left)
    return mark


def can_leave_late(point, left):
    """Whether so many cells left are enough for the one reader behind its turns, and too few for the other."""
    word, ahead, high, size, room, body, behind = point
    return left < high and (ahead is None or left >= ahead)


def can_enter_late(point, left):
    """Whether one more turn can come, so that behind the last one the cells left are as for can_leave_late."""
    word, ahead, high, size, room, body, behind = point
    if ahead is not None:
        return room != 0 and left >= ahead + size
    if room is None:
        return size > 0 or left < high
    return room > 0 and left < high + room * size


def mark_late(table, now, before, left, index, point):
    word, ahead, high, size, room, body, behind = point
    mark = now[behind] if can_leave_late(point, left) else 0
    return mark | now[body] if room is not None and can_enter_late(point, left) else mark


def late_count(point, left):
    """A count from 1 on with which the one reader goes on and the other does not; None if there is none."""
    word, ahead, high, size, most, body, behind = point
    many = 1
    if size > 0 and ahead is None and left >= high:
        many = (left - high) // size + 1
    elif size > 0 and ahead is not None:
        many = (left - ahead) // size
        many = most if most is not None and many > most else many
    if many < 1 or (most is not None and many > most):
        return None
    rest = left - many * size
    return many if rest < high and (ahead is None or rest >= ahead) else None


def mark_late_count(table, now, before, left, index, point):
    word, ahead, high, size, most, body, behind = point
    mark = now[behind] if can_leave_late(point, left) else 0
    return mark if late_count(point, left) is None else mark | now[body]


def mark_fill(table, now, before, left, index, point):
    word, inner, body, behind = point
    if left == 0 and not table.layout.is_gap:
        return now[behind]
    return idle_mask(inner, table.layout, left) & table.endless


def mark_twin_fill(table, now, before, left, index, point):
    return now[point[-1]] if left == 0 else 0


def has_turn(layout, loop, left):
    """Whether a loop can have one more turn with so many cells left."""
    if loop[0] == "loop":
        return left >= loop[2]
    if loop[0] == "late":
        return can_enter_late(loop, left)
    return left > 0 or layout.is_gap


def body_of(loop):
    """The first point of the turns of a loop."""
    return loop[-2]


def mark_again(table, now, before, left, index, point):
    opening = point[1]
    loop = table.layout.points[opening]
    if has_turn(table.layout, loop, left):
        mark = now[opening] | now[body_of(loop)]
        if mark != now[opening]:
            now[opening] = mark
            # Points of the turn from which it can end without a look have seen a part of this mark.
            mark_points(table, now, before, left, opening + 1, index)
    return 0


def mark_if_left(table, now, before, left, index, point):
    word, inner, behind = point
    return now[inner] if left > 0 or table.layout.is_gap else now[behind]


def mark_need(table, now, before, left, index, point):
    word, many, behind = point
    return now[behind] if left >= many else table.refused


def mark_twin_need(table, now, before, left, index, point):
    word, fewer, many, behind, alone = point
    if left >= many:
        return now[behind]
    return now[alone] if left >= fewer else 0


def mark_pad(table, now, before, left, index, point):
    word, many, behind, look = point
    zeros = zero_mask(many, table.layout.rhythm, left)
    return zeros & now[behind] | (table.whole - zeros) & now[look]


def stops_inside(known, left):
    """Whether there is a length, not above most, with which the reading can end as asked within a limit."""
    return (known.least_stop is not None and known.least_stop <= left
            and (known.most is None or known.least_stop <= known.most))


def mark_within(table, now, before, left, index, point):
    known = table.limits[index]
    mark = known.skips.ends[0] & now[known.skips.after] | known.skips.waiting[0]
    if stops_inside(known, left):
        return table.whole
    if known.most is not None and left >= known.most:
        return mark
    if known.gap_key is not None and left in known.gaps:
        return table.whole
    return mark | table.refused if known.limit == "nested" else mark


MARKERS = {
    "end": mark_end, "look": mark_look, "choice": mark_choice, "turn": mark_turn, "leave": mark_leave,
    "enter": mark_enter, "count": mark_count, "loop": mark_loop, "fill": mark_fill, "again": mark_again,
    "if left": mark_if_left, "need": mark_need, "pad": mark_pad, "within": mark_within,
    "twin end": mark_twin_end, "twin look": mark_twin_look, "either": mark_either, "late": mark_late,
    "late count": mark_late_count, "twin fill": mark_twin_fill, "twin need": mark_twin_need,
    "side within": mark_within, "twin within": mark_within,
}


def mark_points(table, now, before, left, low, high):
    """Decide the points from low to below high for so many cells left."""
    points = table.layout.points
    for index in range(low, high):
        point = points[index]
        action = MARKERS[point[0]]
        # What was found ahead of this holds on, so that a loop in a loop need not be closed anew.
        now[index] = now[index] | action(table, now, before, left, index, point)
