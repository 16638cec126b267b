"""Walks: what can be left at each step of a part, for all that can be left where it begins.

The steps of a part are laid out once for each time that they are gone
through, turns without a greatest number once. What comes to a step is pushed
on through it, and a loop goes on only with what it has not had, so that each
step has had in the end just what can come to it. The sets are masks with one
start and one period for the whole walk: from the start on nothing is asked of
what is left, so there each of them repeats as the set at the beginning does.
"""

from withinlimits.errors import TooLarge
from withinlimits.masks import Passage, mask_of, passed_masks, set_of_mask
from withinlimits.parts import part_at, parts_of, size_of
from withinlimits.points import rhythm_of
from withinlimits.sets import LengthSet
from withinlimits.tables import lengths_at, passing

MOST_STEPS = 60000


class Step:
    """A part at one place of a walk, with the steps in it, and what has come to it."""

    def __init__(self, part, path, rhythm):
        self.part = part
        self.path = path
        self.under = []
        self.had = [0 for place in range(rhythm)]
        # Of a loop what its turns begin with, of a within what is behind its look.
        self.known = [0 for place in range(rhythm)]


class Walk:
    """A walk through a part, for a set of all that can be left where it begins."""

    def __init__(self, study, path, begin, is_gap):
        part = part_at(study.part, path)
        self.study = study
        self.is_gap = is_gap
        self.rhythm = rhythm_of(part)
        self.start = greatest_bound(part, begin.start)
        self.period = begin.period
        self.whole = (1 << self.start + self.period) - 1
        self.passages = {}
        self.many = 0
        self.step = step_of(self, part, path)
        first = mask_of(begin, self.start + self.period)
        push(self, self.step, [first] + [0 for place in range(self.rhythm - 1)])


def greatest_bound(part, most):
    """A number of cells left from which on no part asks whether so many are left; not below most."""
    bounds = [most, 1]
    if part[0] == "need":
        bounds.append(part[1])
    if part[0] == "counted" and part[3] is not None:
        bounds.append(part[3] + size_of(part[4]))
    if part[0] != "within":
        bounds.extend([greatest_bound(inner, most) for inner in parts_of(part)])
    return max([int(bound) for bound in bounds])


def times_of(part):
    """How often the steps in a part are laid out."""
    if part[0] == "times":
        return part[1]
    if part[0] == "counted" and part[2] is not None:
        return part[2]
    # What lies within a limit is gone through in walks of its own.
    return 0 if part[0] == "within" else 1


def step_of(walk, part, path):
    """The step of a part, with those in it."""
    walk.many = walk.many + 1
    if walk.many > MOST_STEPS:
        raise TooLarge("steps")
    step = Step(part, path, walk.rhythm)
    for turn in range(times_of(part)):
        for index, inner in enumerate(parts_of(part)):
            step.under.append(step_of(walk, inner, (*path, index)))
    return step


def mask_from(walk, number):
    """The mask of all from a number on that is not above the start of the walk."""
    return walk.whole >> number << number


def cut(front, mask):
    """The front with what the mask has."""
    return [one & mask for one in front]


def joined(front, other):
    return [one | two for one, two in zip(front, other)]


def less(front, other):
    """What the one front has and the other has not."""
    return [one - (one & two) for one, two in zip(front, other)]


def read_on(walk, front):
    """The front behind one more cell."""
    lower = [mask >> 1 | (mask >> walk.start & 1) << walk.start + walk.period - 1 for mask in front]
    return lower[-1:] + lower[:-1]


def push_look(walk, step, front):
    return read_on(walk, front)


def push_all(walk, step, front):
    for inner in step.under:
        front = push(walk, inner, front)
    return front


def push_choice(walk, step, front):
    front = read_on(walk, front)
    behind = cut(front, 0)
    for inner in step.under:
        behind = joined(behind, push(walk, inner, front))
    return behind


def push_loop(walk, step, front, enter):
    """Go through the turns of a loop; returns what it has not had ahead of this."""
    fresh = less(front, step.known)
    behind = fresh
    while any(fresh):
        step.known = joined(step.known, fresh)
        fresh = less(push(walk, step.under[0], cut(fresh, enter)), step.known)
        behind = joined(behind, fresh)
    return behind


def push_counted(walk, step, front):
    word, manner, most, ahead, inner = step.part
    leave = 0 if ahead is None else ahead
    size = 0 if ahead is None else size_of(inner)
    enter = mask_from(walk, leave + size)
    front = read_on(walk, front)
    behind = front
    if most is None:
        behind = push_loop(walk, step, front, enter)
    else:
        for turn in step.under:
            front = push(walk, turn, cut(front, enter))
            behind = joined(behind, front)
    return cut(behind, mask_from(walk, leave))


def push_within(walk, step, front):
    front = read_on(walk, front)
    step.known = joined(step.known, front)
    if step.path not in walk.passages:
        lengths = lengths_through(walk.study, step)
        walk.passages[step.path] = Passage(lengths, walk.start, walk.period, walk.rhythm)
    return passed_masks(walk.passages[step.path], front)


def push_fill(walk, step, front):
    if walk.is_gap:
        return cut(push_loop(walk, step, front, walk.whole), 0)
    return cut(push_loop(walk, step, front, mask_from(walk, 1)), 1)


def push_if_left(walk, step, front):
    if walk.is_gap:
        return push_all(walk, step, front)
    return joined(push_all(walk, step, cut(front, mask_from(walk, 1))), cut(front, 1))


def push_need(walk, step, front):
    return cut(front, mask_from(walk, step.part[1]))


def push_pad(walk, step, front):
    many = step.part[1]
    for number in range(many - 1):
        stays = [mask if place % many == 0 else 0 for place, mask in enumerate(front)]
        front = joined(stays, read_on(walk, less(front, stays)))
    return front


PUSHES = {
    "cell": push_look, "row": push_all, "choice": push_choice, "times": push_all, "counted": push_counted,
    "within": push_within, "fill": push_fill, "if left": push_if_left, "need": push_need, "pad": push_pad,
}


def push(walk, step, front):
    """Push what comes to a step on through it; returns what is behind."""
    if not any(front):
        return front
    step.had = joined(step.had, front)
    action = PUSHES[step.part[0]]
    return action(walk, step, front)


def lengths_through(study, step):
    """The set of the lengths, not above most, with which the part of a within can be read."""
    lengths = lengths_at(study, passing(step.path, step.part[4]))
    return lengths if step.part[2] is None else lengths & up_to(step.part[2])


def sets_of(walk, front):
    """The tuple of the sets of a front of a walk."""
    return tuple([set_of_mask(mask, walk.start, walk.period) for mask in front])


def lefts_of(walk, front):
    """The set of all that can be left at any place of a front."""
    mask = 0
    for one in front:
        mask = mask | one
    return set_of_mask(mask, walk.start, walk.period)


def up_to(number):
    """The set of all numbers from 0 to this one."""
    return LengthSet.full() - LengthSet.from_least(number + 1)


def starts_of(lefts, most):
    """All lengths of limits, not above most, that end within what is around, where so many cells can be left."""
    starts = LengthSet.full()
    if not lefts:
        starts = LengthSet.none()
    elif len(lefts.rests) == 0:
        # In its shortest form a set that ends has its last member just below its start.
        starts = up_to(lefts.start - 1)
    return starts if most is None else starts & up_to(most)


def further_of(lefts, most):
    """All that can be left where a told limit can end beyond what is around."""
    return lefts if most is None else lefts - LengthSet.from_least(most)
