"""Fronts: what can be left, at each of the places that a rhythm of pads tells apart."""

from withinlimits.errors import NoSet, TooLarge
from withinlimits.masks import Passage, mask_of, passed_masks, set_of_mask
from withinlimits.plain import common_multiple
from withinlimits.sets import MOST, LengthSet

MOST_PASSED = 1000000


def window_of(front):
    """A start and a period with which all sets of a front repeat."""
    start = max([int(one.start) for one in front.sets()])
    period = 1
    for one in front.sets():
        period = common_multiple(period, one.period)
    if period > MOST:
        raise TooLarge("period")
    return start, period


def passage_of(front, lengths, start, period):
    """The passage of a front behind so many cells as are in a set."""
    late = start if start > lengths.start else lengths.start
    rhythm = common_multiple(lengths.period, front.period)
    if front.period > MOST or front.period * (late + rhythm) > MOST_PASSED:
        raise TooLarge("period")
    return Passage(lengths, start, period, front.period)


class Front:
    """For each place a set of the numbers of cells that can be left there; it is never changed."""

    def __init__(self, *sets):
        if len(sets) == 0 or not all([isinstance(one, LengthSet) for one in sets]):
            raise NoSet("front")
        self.places = sets
        self.period = len(sets)

    def sets(self):
        """The tuple of the sets."""
        return self.places

    def all_lefts(self):
        """All that can be left at any place."""
        lefts = LengthSet.none()
        for one in self.places:
            lefts = lefts | one
        return lefts

    def read(self):
        """The front behind one more cell."""
        moved = [self.places[index - 1] - 1 for index in range(self.period)]
        return Front(*moved)

    def passed(self, lengths):
        """The front behind n more cells, for all n of a set."""
        start, period = window_of(self)
        passage = passage_of(self, lengths, start, period)
        masks = passed_masks(passage, [mask_of(one, start + period) for one in self.places])
        behind = [set_of_mask(mask, start, period) for mask in masks]
        return Front(*behind)

    def __contains__(self, x):
        return any([x in one for one in self.places])

    def __bool__(self):
        return any([bool(one) for one in self.places])

    def __eq__(self, other):
        return isinstance(other, Front) and self.places == other.places

    def __or__(self, other):
        if not isinstance(other, Front) or other.period != self.period:
            return NotImplemented
        both = [ours | theirs for ours, theirs in zip(self.places, other.places)]
        return Front(*both)

    def __and__(self, other):
        if not isinstance(other, LengthSet):
            return NotImplemented
        common = [ours & other for ours in self.places]
        return Front(*common)

    def __le__(self, other):
        if not isinstance(other, Front) or other.period != self.period:
            return NotImplemented
        return all([ours <= theirs for ours, theirs in zip(self.places, other.places)])

    @staticmethod
    def begin(lengths, period):
        """The front with a set at the first place, and empty ones behind it."""
        empty = [LengthSet.none() for place in range(period - 1)]
        return Front(lengths, *empty)
