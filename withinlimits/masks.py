"""Masks: sets of lengths as integers, the bit n of which tells whether n is a member.

A mask with a start and a period has the bits below start plus period; from
start on it repeats.
"""

from withinlimits.plain import common_divisor, common_multiple
from withinlimits.sets import LengthSet


def bits_of(marks):
    """The integer whose bit n is the mark number n."""
    return int("0" + "".join(["1" if mark else "0" for mark in marks[::-1]]), 2)


def repeated(cycle, width, many):
    """The first many bits of a cycle of so many bits that goes on and on."""
    while width < many:
        cycle = cycle | cycle << width
        width = 2 * width
    return cycle & (1 << many) - 1


def mask_of(lengths, many):
    """The members of a set below many."""
    cycle = list(lengths.cycle)
    first = lengths.start % lengths.period
    after = repeated(bits_of(cycle[first:] + cycle[:first]), lengths.period, many)
    return (bits_of(list(lengths.marks)) | after << lengths.start) & (1 << many) - 1


def set_of_mask(mask, start, period):
    """The set with this mask."""
    members = [number for number, digit in enumerate(f"{mask:b}"[::-1]) if digit == "1"]
    rests = [number % period for number in members if number >= start]
    early = [number for number in members if number < start]
    return LengthSet(early, start, period, sorted([int(rest) for rest in rests]))


def turned(cycle, period, many):
    """A cycle with each bit this much lower."""
    many = many % period
    return (cycle >> many | cycle << (period - many)) & (1 << period) - 1


def turned_often(cycle, period, step):
    """All that comes of a cycle by turns by multiples of a divisor of its period."""
    while step < period:
        cycle = cycle | turned(cycle, period, step)
        step = 2 * step
    return cycle


class Passage:
    """How masks with a start and a period go on behind numbers of cells that are in a set.

    The numbers below late are held one by one. Behind a later one a mask is its
    cycle, turned; so of these only the rests by step matter, and by rhythm those
    of the place at which it goes on.
    """

    def __init__(self, lengths, start, period, rhythm):
        self.start = start
        self.period = period
        self.rhythm = rhythm
        self.late = start if start > lengths.start else lengths.start
        self.singles = [number for number in range(self.late) if number in lengths]
        common = common_multiple(lengths.period, rhythm)
        self.step = common_divisor(period, common)
        late = [number for number in range(self.late, self.late + common) if number in lengths]
        self.turns = list({((number - self.late) % self.step, number % rhythm): True for number in late})


def passed_masks(passage, masks):
    """The masks of a front behind a passage, for those ahead of it."""
    many = passage.start + passage.period
    behind = [0 for mask in masks]
    for place, mask in enumerate(masks):
        if mask == 0:
            continue
        early = mask & (1 << passage.start) - 1
        after = repeated(mask >> passage.start, passage.period, passage.late + many)
        whole = early | after << passage.start
        for number in passage.singles:
            at = (place + number) % passage.rhythm
            behind[at] = behind[at] | whole >> number & (1 << many) - 1
        cycle = whole >> passage.late & (1 << passage.period) - 1
        cycle = turned_often(cycle, passage.period, passage.step)
        for turn, shift in passage.turns:
            at = (place + shift) % passage.rhythm
            behind[at] = behind[at] | repeated(turned(cycle, passage.period, turn), passage.period, many)
    return behind
