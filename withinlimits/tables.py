"""Tables of points: from which of them, with how many cells left, a reading can end as asked.

A table has a stage for each number of cells left: for each point a mask of
those rests of what the limit has in all (by the rhythm of its pads) with
which the reading can end so. A stage hangs on the one ahead of it alone, so
the stages repeat as soon as one comes back; thus the set of lengths is exact.
"""

from withinlimits.errors import TooLarge
from withinlimits.marks import mark_points
from withinlimits.plain import common_multiple
from withinlimits.sets import LengthSet, least_period, least_start

MOST_STAGES = 20000
FEW_STAGES = 40
MOST_MARKS = 8000000
MOST_SKIPPED = 64000000

KINDS = ("read", "refused", "beyond", "endless")


class Skips:
    """What lies behind a limit that is gone through: the lengths that can be read, and the marks behind them.

    Each length is gone through cell by cell: waiting has for each number of
    cells that were skipped so far what is behind one more of them.
    """

    def __init__(self, lengths, most, whole, behind):
        many = lengths.start + (lengths.period if lengths.cycle != (False,) else 0)
        self.back = lengths.start if many > lengths.start else None
        if most is not None:
            many = most + 1
            self.back = None
        self.after = behind
        self.ends = [whole if number in lengths else 0 for number in range(max(1, many))]
        self.waiting = [0 for mark in self.ends]


def skip_on(skips, mark):
    """Go on by one cell, with the mark behind the limit for what was left ahead of it."""
    marks = [end & mark | later for end, later in zip(skips.ends, skips.waiting)]
    skips.waiting = marks[1:] + [0 if skips.back is None else marks[skips.back]]


class Within:
    """A limit in a table: how it is gone through, and how the reading can end as asked in it.

    That is so from the length least_stop on, if this is not None, and in a
    gap with as many cells left up to the end of what is around as gaps has.
    """

    def __init__(self, study, point, limit, keys):
        self.study = study
        self.most = point[2]
        self.limit = limit
        self.pass_key, self.stop_key, self.gap_key = keys
        self.least_stop = None
        self.gaps = LengthSet.none()
        self.skips = None


class Table:
    """Marks of the points of a layout for one way in which a reading is to end."""

    def __init__(self, study, layout, kind, ends):
        whole = (1 << layout.rhythm) - 1
        self.study = study
        self.layout = layout
        self.kind = kind
        self.ends = ends
        self.whole = whole
        self.refused = whole if kind == "refused" else 0
        self.beyond = whole if kind in ("beyond", "stuck", "parted") else 0
        self.endless = whole if kind in ("endless", "stuck", "parted") else 0
        # Of two readers held against each other by places, one that looks on is parted from one that was refused.
        self.last_look = self.beyond if layout.is_by_places else None
        self.stages = []
        self.lengths = None
        self.limits = {}
        self.width = len(layout.points)
        for index, point in enumerate(list(layout.points)):
            if point[0] in LIMITS_IN_TABLES:
                known = limit_in(self, point)
                self.limits[index] = known
                self.width = self.width + len(known.skips.ends)


def within_of(table, point):
    """A limit in a table of one reader."""
    return limit_of_one(table.study, point, table.kind)


def side_within_of(table, point):
    """A limit for one of two readers, that goes on alone."""
    kind = "stuck" if table.kind == "parted" else "read"
    return limit_of_one(table.study.sides[point[6]], point, kind)


def limit_of_one(study, point, kind):
    """A limit in a table for one reader, for readings that are to end so."""
    word, place, most, limit, rest = point[:5]
    is_refusal = kind == "refused"
    late = "left over" if is_refusal and rest == "exact" else "never"
    stop_key = None if kind == "read" else (place, kind, late, False)
    gap_key = (place, kind, "always" if is_refusal else "never", True)
    has_gap = kind != "read" and limit == "told"
    return Within(study, point, limit, (passing(place, rest), stop_key, gap_key if has_gap else None))


def twin_within_of(table, point):
    """A limit for two readers that read alike up to it, behind which both go on or one alone."""
    word, place, most, rest, reader, behind = point
    study = table.study
    if reader == "alike":
        return Within(study.sides[0], point, "twin", (passing(place, rest), None, None))
    # By places one that goes on alone has not looked on yet, so it must be at the end.
    is_held = study.is_by_places and reader != "both"
    pass_key = (place, reader, "at end" if is_held or rest == "exact" else "always", False)
    stop_key = (place, "parted", "left over" if study.is_by_places else "never", False)
    stops = table.kind == "parted" and reader == "both"
    return Within(study, point, "twin", (pass_key, stop_key if stops else None, None))


LIMITS_IN_TABLES = {"within": within_of, "side within": side_within_of, "twin within": twin_within_of}


def limit_in(table, point):
    """What a table needs to know of a limit in it."""
    action = LIMITS_IN_TABLES[point[0]]
    known = action(table, point)
    behind = point[5]
    known.skips = Skips(lengths_at(known.study, known.pass_key), known.most, table.whole, behind)
    if known.stop_key is not None:
        known.least_stop = lengths_at(known.study, known.stop_key).least()
    if known.gap_key is not None:
        known.gaps = lengths_at(known.study, known.gap_key)
    return known


def passing(place, rest):
    """The key of the table for the readings that go on behind a limit."""
    return (place, "read", "at end" if rest == "exact" else "always", False)


def asked(kind):
    """The key of the table for the readings of rows that end so."""
    return (None, kind, "always" if kind == "read" else "never", False)


def add_stage(table):
    """Decide all points for one cell more."""
    left = len(table.stages)
    points = table.layout.points
    if (left + 1) * len(points) > MOST_MARKS or (left + 1) * table.width > MOST_SKIPPED or left > MOST_STAGES:
        raise TooLarge("lengths")
    before = table.stages[left - 1] if left > 0 else []
    if left > 0:
        for known in table.limits.values():
            skip_on(known.skips, before[known.skips.after])
    now = [0 for point in points]
    mark_points(table, now, before, left, 0, len(points))
    table.stages.append(now)


def grow(table, many):
    """Have stages for each number of cells below many."""
    while len(table.stages) < many:
        add_stage(table)


def has_mark(table, index, left, total):
    """Whether a reading can end as asked from a point, with so many cells left of those that the limit has in all."""
    grow(table, left + 1)
    return bool(table.stages[left][index] >> (total % table.layout.rhythm) & 1)


def can_end(table, length):
    """Whether a reading can end as asked within a limit of this length."""
    return has_mark(table, table.layout.first, length, length)


def bounds_of(point):
    """The numbers of cells left from which on a point asks for nothing more of what is left."""
    word = point[0]
    if word in ("need", "leave", "count"):
        return [point[1]]
    if word in ("enter", "loop", "within", "side within", "twin within", "twin need"):
        return [point[2]]
    if word in ("late", "late count"):
        ahead, high, size, most = point[1:5]
        return [high + (0 if most is None else most) * size, (0 if ahead is None else ahead) + size]
    return []


def horizon(table):
    """A number of cells left from which on each stage is made of the one ahead in the same way."""
    most = 1
    for point in table.layout.points:
        most = max([int(bound) for bound in (most, *bounds_of(point)) if bound is not None])
    for known in table.limits.values():
        least_stop = 0 if known.least_stop is None else known.least_stop
        most = max(int(most), int(least_stop), int(known.gaps.start))
    return most + 1


def modulus(table):
    """By which number the numbers of cells left must be alike for stages to be made in the same way."""
    number = table.layout.rhythm
    for known in table.limits.values():
        number = common_multiple(number, known.gaps.period)
    for point in table.layout.points:
        if point[0] == "late count" and point[3] > 0:
            number = common_multiple(number, point[3])
    return number


def state_of(table):
    """All on which the next stages hang, beside the number of cells left."""
    return [table.stages[-1], [known.skips.waiting for known in table.limits.values()]]


def repeat_of(table):
    """A number of cells left, and a period with which the stages repeat from there on."""
    step = modulus(table)
    grow(table, horizon(table) + 1)
    wait = 1
    start = len(table.stages) - 1
    state = state_of(table)
    while True:
        add_stage(table)
        period = len(table.stages) - 1 - start
        if period % step == 0 and state_of(table) == state:
            return start, period
        if period == wait:
            # The state that is waited for must be one that comes back, so it is taken ever later.
            start, state, wait = len(table.stages) - 1, state_of(table), 2 * wait


def first_end(table, low, high):
    """The least length from low to below high with which a reading can end as asked, or None."""
    for length in range(low, high):
        if can_end(table, length):
            return length
    return None


def least_length(table):
    """The least length with which a reading can end as asked, or None."""
    # Where there is one it is mostly found long before the stages repeat.
    length = first_end(table, 0, FEW_STAGES)
    if length is None:
        start, period = repeat_of(table)
        length = first_end(table, FEW_STAGES, start + period)
    return length


def lengths_of_table(table):
    """The set of all lengths with which a reading can end as asked."""
    start, period = repeat_of(table)
    cycle = [False for rest in range(period)]
    for length in range(start, start + period):
        cycle[length % period] = can_end(table, length)
    cycle = cycle[:least_period(cycle)]
    start = least_start([can_end(table, length) for length in range(start)], cycle)
    early = [length for length in range(start) if can_end(table, length)]
    return LengthSet(early, start, len(cycle), [rest for rest in range(len(cycle)) if cycle[rest]])


def table_at(study, key):
    """The table with a key: the place of a limit, the kind of ending, which ends count, and whether in a gap."""
    place, kind, ends, is_gap = key
    if key not in study.tables:
        study.tables[key] = Table(study, study.laid_out(place, is_gap), kind, ends)
    return study.tables[key]


def lengths_at(study, key):
    """The set of the lengths of a table."""
    table = table_at(study, key)
    if table.lengths is None:
        table.lengths = lengths_of_table(table)
    return table.lengths
