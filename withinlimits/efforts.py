"""The greatest work that a reading can be, from each point on.

As in tables, stage by stage of the cells left, but with numbers in the place
of masks, and for one rest of what the limit has in all. NO stands where no
reading counts; from ENDLESS on the work grows with a number in the row.
"""

from withinlimits.errors import TooLarge
from withinlimits.marks import body_of, has_turn
from withinlimits.points import idle_mask, idle_turns
from withinlimits.tables import MOST_MARKS

NO = -1
ENDLESS = 10 ** 40


class Effort:
    """The greatest work from each point of a layout on: of all readings, or of those alone that come to the end."""

    def __init__(self, study, layout, ends, rest):
        self.study = study
        self.layout = layout
        self.ends = ends
        self.rest = rest
        self.stopped = 0 if ends == "any" else NO
        self.stages = []


def both(work, more):
    """The sum of two works; NO if one is."""
    return NO if work == NO or more == NO else work + more


def greater(work, other):
    return work if work > other else other


def is_idle(effort, part, left):
    """Whether a part is read without a look."""
    return bool(idle_mask(part, effort.layout, left) >> effort.rest & 1)


def work_end(effort, now, before, left, point):
    return 0 if effort.ends != "at end" or left == 0 else NO


def work_look(effort, now, before, left, point):
    return effort.stopped if left == 0 else both(before[point[4]], 1)


def work_choice(effort, now, before, left, point):
    return max([int(now[inner]) for inner in point[2]])


def work_turn(effort, now, before, left, point):
    return both(now[point[1]], 1)


def work_leave(effort, now, before, left, point):
    word, leave, behind = point
    return now[behind] if left >= leave else NO


def work_enter(effort, now, before, left, point):
    word, leave, enter, body, behind = point
    work = now[behind] if left >= leave else NO
    return greater(work, both(now[body], 1)) if left >= enter else work


def work_count(effort, now, before, left, point):
    return greater(now[point[2]], effort.stopped)


def work_loop(effort, now, before, left, point):
    word, leave, enter, inner, body, behind = point
    work = now[behind] if left >= leave else NO
    return both(work, ENDLESS) if is_idle(effort, inner, left) else work


def work_fill(effort, now, before, left, point):
    word, inner, body, behind = point
    if left == 0 and not effort.layout.is_gap:
        return now[behind]
    if is_idle(effort, inner, left):
        return both(effort.stopped, 1 + idle_turns(inner))
    return NO


def work_if_left(effort, now, before, left, point):
    word, inner, behind = point
    return now[inner] if left > 0 or effort.layout.is_gap else now[behind]


def work_need(effort, now, before, left, point):
    word, many, behind = point
    return now[behind] if left >= many else effort.stopped


def work_pad(effort, now, before, left, point):
    word, many, behind, look = point
    return now[behind] if (effort.rest - left) % many == 0 else now[look]


def work_within(effort, now, before, left, point):
    word, place, most, limit, rest, behind = point
    ends = "at end" if rest == "exact" else "always"
    longest = left if most is None or left < most else most
    work = effort.stopped
    for length in range(longest + 1):
        after = now[behind] if length == 0 else effort.stages[left - length][behind]
        work = greater(work, both(greatest_work(effort.study, place, ends, False, length), after))
        if effort.ends == "any":
            work = greater(work, greatest_work(effort.study, place, "any", False, length))
    if effort.ends == "any" and limit == "told" and (most is None or left < most):
        work = greater(work, greatest_work(effort.study, place, "any", True, left))
    return work


WORKS = {
    "end": work_end, "look": work_look, "choice": work_choice, "turn": work_turn, "leave": work_leave,
    "enter": work_enter, "count": work_count, "loop": work_loop, "fill": work_fill, "if left": work_if_left,
    "need": work_need, "pad": work_pad, "within": work_within,
}


def work_again(effort, now, before, left, index, opening):
    """Close a loop, which begins at the point opening."""
    loop = effort.layout.points[opening]
    if has_turn(effort.layout, loop, left) and not is_idle(effort, loop[-3], left):
        work = greater(now[opening], both(now[body_of(loop)], 1))
        if work != now[opening]:
            now[opening] = work
            # Points of the turn from which it can end without a look have seen less than this work.
            work_points(effort, now, before, left, opening + 1, index)


def work_points(effort, now, before, left, low, high):
    """Decide the points from low to below high for so many cells left."""
    for index in range(low, high):
        point = effort.layout.points[index]
        if point[0] == "again":
            work_again(effort, now, before, left, index, point[1])
        else:
            action = WORKS[point[0]]
            now[index] = action(effort, now, before, left, point)


def add_effort(effort):
    """Decide all points for one cell more."""
    left = len(effort.stages)
    if (left + 1) * len(effort.layout.points) > MOST_MARKS:
        raise TooLarge("work")
    now = [NO for point in effort.layout.points]
    work_points(effort, now, effort.stages[left - 1] if left > 0 else now, left, 0, len(now))
    effort.stages.append(now)


def greatest_work(study, place, ends, is_gap, length):
    """The greatest work within the limit at a place with this length, or in a gap of it; NO if no reading counts."""
    layout = study.laid_out(place, is_gap)
    rest = length % layout.rhythm
    key = (place, ends, is_gap, rest)
    if key not in study.efforts:
        study.efforts[key] = Effort(study, layout, ends, rest)
    effort = study.efforts[key]
    while len(effort.stages) <= length:
        add_effort(effort)
    return effort.stages[length][layout.first]
