"""Sets of lengths: sets of integers from 0 on that repeat from some number on.

A set is kept as marks: whether it has each number below its start, and
whether it has, from there on, the numbers with each rest by its period.
"""

from withinlimits.errors import NoSet, TooLarge
from withinlimits.plain import common_multiple, is_from, is_integer

MOST = 5000
MOST_BOUND = 10000


def check_size(number, low, place):
    """Raise an error with this place for a start or a period that cannot be one."""
    if not is_from(number, low):
        raise NoSet(place)
    if number > MOST:
        raise TooLarge(place)


def check_numbers(numbers, bound, place):
    """Raise an error with this place unless these are integers below bound, each above the last."""
    if not isinstance(numbers, (list, tuple)):
        raise NoSet(place)
    low = 0
    for number in numbers:
        if not is_from(number, low, bound - 1):
            raise NoSet(place)
        low = number + 1


def marks_for(numbers, many):
    """For each number below many whether it is one of these."""
    known = {number: True for number in numbers}
    return [number in known for number in range(many)]


def least_period(marks):
    """The least period with which these marks, as often as one likes, repeat."""
    for period in range(1, len(marks)):
        if len(marks) % period == 0 and marks == marks[:period] * (len(marks) // period):
            return period
    return len(marks)


def least_start(marks, cycle):
    """The least start for marks that are followed by this cycle."""
    start = len(marks)
    while start > 0 and marks[start - 1] == cycle[(start - 1) % len(cycle)]:
        start = start - 1
    return start


def marks_of(lengths, start, period):
    """The marks of a set up to a later start, and behind them its cycle for a multiple of its period."""
    cycle = list(lengths.cycle)
    between = [cycle[number % lengths.period] for number in range(lengths.start, start)]
    return list(lengths.marks) + between + cycle * (period // lengths.period)


def set_of(marks, start):
    """The set with these marks: those below start, and behind them its cycle."""
    period = len(marks) - start
    early = [number for number in range(start) if marks[number]]
    return LengthSet(early, start, period, [rest for rest in range(period) if marks[start + rest]])


def paired(one, two):
    """A start for both sets, and the pairs of their marks: those below it, and behind them of a cycle for both."""
    period = common_multiple(one.period, two.period)
    if period > MOST:
        raise TooLarge("period")
    start = one.start if one.start > two.start else two.start
    return start, list(zip(marks_of(one, start, period), marks_of(two, start, period)))


def raised(lengths, many):
    """The set with each member this much greater."""
    if many < 0:
        raise NoSet("shift")
    early = [number + many for number in lengths.early]
    rests = [rest for rest in range(lengths.period) if lengths.cycle[(rest - many) % lengths.period]]
    return LengthSet(early, lengths.start + many, lengths.period, rests)


def lowered(lengths, many):
    """The set with each member this much less, without those that get below 0."""
    if many < 0:
        raise NoSet("shift")
    start = lengths.start - many if many < lengths.start else 0
    early = [number for number in range(start) if number + many in lengths]
    rests = [rest for rest in range(lengths.period) if lengths.cycle[(rest + many) % lengths.period]]
    return LengthSet(early, start, lengths.period, rests)


class LengthSet:
    """A set of integers from 0 on that repeats from its start on; it is never changed."""

    def __init__(self, early=(), start=0, period=1, rests=()):
        check_size(start, 0, "start")
        check_size(period, 1, "period")
        check_numbers(early, start, "early")
        check_numbers(rests, period, "rests")
        cycle = marks_for(rests, period)
        marks = marks_for(early, start)
        self.period = least_period(cycle)
        self.cycle = tuple(cycle[:self.period])
        self.start = least_start(marks, self.cycle)
        self.marks = tuple(marks[:self.start])

    @property
    def early(self):
        """The members below start, ascending."""
        return [number for number in range(self.start) if self.marks[number]]

    @property
    def rests(self):
        """The rests by the period of the members from start on, ascending."""
        return [rest for rest in range(self.period) if self.cycle[rest]]

    def least(self):
        """The least member, or None."""
        for number in range(self.start + self.period):
            if number in self:
                return number
        return None

    def below(self, bound):
        """The members below bound, ascending."""
        if not is_from(bound, 0, MOST_BOUND):
            raise NoSet("bound")
        for number in range(bound):
            if number in self:
                yield number

    def __contains__(self, x):
        if not is_from(x, 0):
            return False
        if x < self.start:
            return self.marks[x]
        return self.cycle[x % self.period]

    def __bool__(self):
        return any(self.marks) or any(self.cycle)

    def __eq__(self, other):
        # The shortest form is the only one, so equal members are equal marks.
        return isinstance(other, LengthSet) and self.marks == other.marks and self.cycle == other.cycle

    def __le__(self, other):
        if not isinstance(other, LengthSet):
            return NotImplemented
        return all([theirs or not ours for ours, theirs in paired(self, other)[1]])

    def __or__(self, other):
        if not isinstance(other, LengthSet):
            return NotImplemented
        start, pairs = paired(self, other)
        return set_of([ours or theirs for ours, theirs in pairs], start)

    def __and__(self, other):
        if not isinstance(other, LengthSet):
            return NotImplemented
        start, pairs = paired(self, other)
        return set_of([ours and theirs for ours, theirs in pairs], start)

    def __sub__(self, other):
        if is_integer(other):
            return lowered(self, other)
        if not isinstance(other, LengthSet):
            return NotImplemented
        start, pairs = paired(self, other)
        return set_of([ours and not theirs for ours, theirs in pairs], start)

    def __add__(self, other):
        if not is_integer(other):
            return NotImplemented
        return raised(self, other)

    def __radd__(self, other):
        if not is_integer(other):
            return NotImplemented
        return raised(self, other)

    def __invert__(self):
        return set_of([not mark for mark in self.marks + self.cycle], self.start)

    @staticmethod
    def none():
        """The empty set."""
        return LengthSet()

    @staticmethod
    def full():
        """The set of all integers from 0 on."""
        return LengthSet((), 0, 1, (0,))

    @staticmethod
    def from_least(number):
        """The set of all integers from this one on."""
        return LengthSet((), number, 1, (0,))

    @staticmethod
    def only(*numbers):
        """The set of these numbers."""
        if not all([is_from(number, 0) for number in numbers]):
            raise NoSet("number")
        members = sorted(set([int(number) for number in numbers]))
        return LengthSet(members, members[-1] + 1 if members else 0)
