"""Tables of points: from which of them, with how many cells left, a reading can end as asked.

A table has a stage for each number of cells left: for each point a mask of
those rests of what the limit has in all (by the rhythm of its pads) with
which the reading can end so. A stage hangs on the one ahead of it alone, so
the stages repeat as soon as one comes back; thus the set of lengths is exact.
"""

from withinlimits.errors import TooLarge
from withinlimits.plain import common_multiple
from withinlimits.points import idle_mask, layout_at, zero_mask
from withinlimits.sets import LengthSet, least_period, least_start

MOST_STAGES = 20000
MOST_MARKS = 8000000

KINDS = ("read", "refused", "beyond", "endless")


class Skips:
    """What lies behind a limit that is gone through: the lengths that can be read, and the marks behind them.

    Each length is gone through cell by cell: waiting has for each number of
    cells that were skipped so far what is behind one more of them.
    """

    def __init__(self, lengths, most, whole, behind):
        many = lengths.start + (lengths.period if lengths.cycle != (False,) else 0)
        self.back = lengths.start if many > lengths.start else None
        if most is not None:
            many = most + 1
            self.back = None
        self.after = behind
        self.ends = [whole if number in lengths else 0 for number in range(max(1, many))]
        self.waiting = [0 for mark in self.ends]


def skip_on(skips, mark):
    """Go on by one cell, with the mark behind the limit for what was left ahead of it."""
    marks = [end & mark | later for end, later in zip(skips.ends, skips.waiting)]
    skips.waiting = marks[1:] + [0 if skips.back is None else marks[skips.back]]


class Within:
    """A limit in a table: how it is gone through, and how the reading can end as asked in it.

    That is so from the length least_stop on, if this is not None, and in a
    gap with as many cells left up to the end of what is around as gaps has.
    """

    def __init__(self, skips, stop_key, gap_key):
        self.skips = skips
        self.stop_key = stop_key
        self.gap_key = gap_key
        self.least_stop = None
        self.gaps = LengthSet.none()


class Table:
    """Marks of the points of a layout for one way in which a reading is to end."""

    def __init__(self, study, layout, kind, ends):
        whole = (1 << layout.rhythm) - 1
        self.layout = layout
        self.kind = kind
        self.ends = ends
        self.whole = whole
        self.refused = whole if kind == "refused" else 0
        self.beyond = whole if kind == "beyond" else 0
        self.stages = []
        self.lengths = None
        self.limits = {}
        self.width = len(layout.points)
        for index, point in enumerate(list(layout.points)):
            if point[0] == "within":
                known = within_of(study, self, point)
                self.limits[index] = known
                self.width = self.width + len(known.skips.ends)


def within_of(study, table, point):
    """What a table needs to know of a limit in it."""
    word, place, most, limit, rest, behind = point
    skips = Skips(lengths_at(study, passing(place, rest)), most, table.whole, behind)
    is_refusal = table.kind == "refused"
    late = "left over" if is_refusal and rest == "exact" else "never"
    stop_key = (place, table.kind, late, False)
    gap_key = (place, table.kind, "always" if is_refusal else "never", True)
    known = Within(skips, stop_key, gap_key)
    if table.kind != "read":
        known.least_stop = lengths_at(study, stop_key).least()
        if limit == "told":
            known.gaps = lengths_at(study, gap_key)
    return known


def stops_inside(known, most, left):
    """Whether there is a length, not above most, with which the reading can end as asked within a limit."""
    return known.least_stop is not None and known.least_stop <= left and (most is None or known.least_stop <= most)


def passing(place, rest):
    """The key of the table for the readings that go on behind a limit."""
    return (place, "read", "at end" if rest == "exact" else "always", False)


def asked(kind):
    """The key of the table for the readings of rows that end so."""
    return (None, kind, "always" if kind == "read" else "never", False)


def mark_end(table, now, before, left, index, point):
    if table.ends == "always" or (table.ends == "at end" and left == 0) or (table.ends == "left over" and left > 0):
        return table.whole
    return 0


def mark_look(table, now, before, left, index, point):
    word, is_checked, good, bad, behind = point
    if left == 0:
        return table.refused if is_checked else table.beyond
    return before[behind] if bad is None else before[behind] | table.refused


def mark_choice(table, now, before, left, index, point):
    mark = 0
    for inner in point[2]:
        mark = mark | now[inner]
    return mark


def mark_turn(table, now, before, left, index, point):
    return now[point[1]]


def mark_leave(table, now, before, left, index, point):
    word, leave, behind = point
    return now[behind] if left >= leave else 0


def mark_enter(table, now, before, left, index, point):
    word, leave, enter, body, behind = point
    mark = now[behind] if left >= leave else 0
    return mark | now[body] if left >= enter else mark


def mark_count(table, now, before, left, index, point):
    word, bound, turns = point
    return now[turns] | table.refused if bound is None or left < bound else now[turns]


def mark_loop(table, now, before, left, index, point):
    word, leave, enter, inner, body, behind = point
    mark = now[behind] if left >= leave else 0
    if table.kind == "idle" and left >= enter:
        mark = mark | idle_mask(inner, table.layout, left)
    return mark


def mark_fill(table, now, before, left, index, point):
    word, inner, body, behind = point
    if left == 0 and not table.layout.is_gap:
        return now[behind]
    return idle_mask(inner, table.layout, left) if table.kind == "endless" else 0


def has_turn(layout, loop, left):
    """Whether a loop can have one more turn with so many cells left."""
    if loop[0] == "loop":
        return left >= loop[2]
    return left > 0 or layout.is_gap


def body_of(loop):
    """The first point of the turns of a loop."""
    return loop[-2]


def mark_again(table, now, before, left, index, point):
    opening = point[1]
    loop = table.layout.points[opening]
    if has_turn(table.layout, loop, left):
        mark = now[opening] | now[body_of(loop)]
        if mark != now[opening]:
            now[opening] = mark
            # Points of the turn from which it can end without a look have seen a part of this mark.
            mark_points(table, now, before, left, opening + 1, index)
    return 0


def mark_if_left(table, now, before, left, index, point):
    word, inner, behind = point
    return now[inner] if left > 0 or table.layout.is_gap else now[behind]


def mark_need(table, now, before, left, index, point):
    word, many, behind = point
    return now[behind] if left >= many else table.refused


def mark_pad(table, now, before, left, index, point):
    word, many, behind, look = point
    zeros = zero_mask(many, table.layout.rhythm, left)
    return zeros & now[behind] | (table.whole - zeros) & now[look]


def mark_within(table, now, before, left, index, point):
    word, place, most, limit, rest, behind = point
    known = table.limits[index]
    mark = known.skips.ends[0] & now[behind] | known.skips.waiting[0]
    if stops_inside(known, most, left):
        return table.whole
    if most is not None and left >= most:
        return mark
    if left in known.gaps:
        return table.whole
    return mark | table.refused if limit == "nested" else mark


MARKERS = {
    "end": mark_end, "look": mark_look, "choice": mark_choice, "turn": mark_turn, "leave": mark_leave,
    "enter": mark_enter, "count": mark_count, "loop": mark_loop, "fill": mark_fill, "again": mark_again,
    "if left": mark_if_left, "need": mark_need, "pad": mark_pad, "within": mark_within,
}


def mark_points(table, now, before, left, low, high):
    """Decide the points from low to below high for so many cells left."""
    points = table.layout.points
    for index in range(low, high):
        point = points[index]
        action = MARKERS[point[0]]
        now[index] = action(table, now, before, left, index, point)


def add_stage(table):
    """Decide all points for one cell more."""
    left = len(table.stages)
    points = table.layout.points
    if (left + 1) * table.width > MOST_MARKS or left > MOST_STAGES:
        raise TooLarge("lengths")
    before = table.stages[left - 1] if left > 0 else []
    if left > 0:
        for known in table.limits.values():
            skip_on(known.skips, before[known.skips.after])
    now = [0 for point in points]
    mark_points(table, now, before, left, 0, len(points))
    table.stages.append(now)


def grow(table, many):
    """Have stages for each number of cells below many."""
    while len(table.stages) < many:
        add_stage(table)


def has_mark(table, index, left, total):
    """Whether a reading can end as asked from a point, with so many cells left of those that the limit has in all."""
    grow(table, left + 1)
    return bool(table.stages[left][index] >> (total % table.layout.rhythm) & 1)


def can_end(table, length):
    """Whether a reading can end as asked within a limit of this length."""
    return has_mark(table, table.layout.first, length, length)


def horizon(table):
    """A number of cells left from which on each stage is made of the one ahead in the same way."""
    most = 1
    for point in table.layout.points:
        bounds = [0]
        if point[0] in ("need", "leave", "count"):
            bounds = [point[1]]
        if point[0] in ("enter", "loop", "within"):
            bounds = [point[2]]
        most = max([int(bound) for bound in (most, *bounds) if bound is not None])
    for known in table.limits.values():
        least_stop = 0 if known.least_stop is None else known.least_stop
        most = max(int(most), int(least_stop), int(known.gaps.start))
    return most + 1


def modulus(table):
    """By which number the numbers of cells left must be alike for stages to be made in the same way."""
    number = table.layout.rhythm
    for known in table.limits.values():
        number = common_multiple(number, known.gaps.period)
    return number


def state_of(table):
    """All on which the next stages hang, beside the number of cells left."""
    return [table.stages[-1], [known.skips.waiting for known in table.limits.values()]]


def repeat_of(table):
    """A number of cells left, and a period with which the stages repeat from there on."""
    step = modulus(table)
    grow(table, horizon(table) + 1)
    wait = 1
    start = len(table.stages) - 1
    state = state_of(table)
    while True:
        add_stage(table)
        period = len(table.stages) - 1 - start
        if period % step == 0 and state_of(table) == state:
            return start, period
        if period == wait:
            # The state that is waited for must be one that comes back, so it is taken ever later.
            start, state, wait = len(table.stages) - 1, state_of(table), 2 * wait


def lengths_of_table(table):
    """The set of all lengths with which a reading can end as asked."""
    start, period = repeat_of(table)
    cycle = [False for rest in range(period)]
    for length in range(start, start + period):
        cycle[length % period] = can_end(table, length)
    cycle = cycle[:least_period(cycle)]
    start = least_start([can_end(table, length) for length in range(start)], cycle)
    early = [length for length in range(start) if can_end(table, length)]
    return LengthSet(early, start, len(cycle), [rest for rest in range(len(cycle)) if cycle[rest]])


def table_at(study, key):
    """The table with a key: the place of a limit, the kind of ending, which ends count, and whether in a gap."""
    place, kind, ends, is_gap = key
    if key not in study.tables:
        study.tables[key] = Table(study, layout_at(study, place, is_gap), kind, ends)
    return study.tables[key]


def lengths_at(study, key):
    """The set of the lengths of a table."""
    table = table_at(study, key)
    if table.lengths is None:
        table.lengths = lengths_of_table(table)
    return table.lengths
