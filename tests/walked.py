"""Walks by the words of the document alone, over sets of numbers below a bound, as integers of bits.

Near the bound numbers are lost as cells are read, so only those below a lower one, which is sure, are asked for.
"""

from withinlimits.parts import size_of
from withinlimits.sets import LengthSet


class Fails(Exception):
    pass


def multiple(numbers):
    """The least common multiple, by trying."""
    found = 1
    while any(found % number for number in numbers):
        found += 1
    return found


def pads_of(part):
    """The numbers of pads whose least common multiple is the rhythm."""
    word = part[0]
    if word == "pad":
        return [part[1]]
    if word == "row":
        return [number for inner in part[1] for number in pads_of(inner)]
    if word == "choice":
        return [number for option in part[2] for number in pads_of(option[1])]
    return pads_of(part[-1]) if word in ("times", "counted", "fill", "if left") else []


def begin(mask, part):
    return [mask] + [0] * (multiple(pads_of(part)) - 1)


def cut(front, mask):
    return [one & mask for one in front]


def union(one, other):
    return [mine | yours for mine, yours in zip(one, other)]


class Walked:
    """A walk that takes entries."""

    def __init__(self, entries=(), bound=700, sure=150):
        self.entries = list(entries)
        self.bound = bound
        self.sure = (1 << sure) - 1
        self.whole = (1 << bound) - 1
        self.many_sure = sure

    def bits(self, lengths):
        return sum(1 << number for number in lengths.below(self.bound))

    def only_from(self, low):
        return self.whole >> low << low

    def is_in(self, one, other):
        return all((mine & ~yours & self.sure) == 0 for mine, yours in zip(one, other))

    def fail_if(self, wrong):
        if wrong:
            raise Fails

    def look(self, front, fails):
        self.fail_if(fails and any(mask & 1 for mask in front))
        lower = [mask >> 1 for mask in front]
        return lower[-1:] + lower[:-1]

    def take(self):
        self.fail_if(not self.entries)
        return self.entries.pop(0)

    def go(self, part, front, gap):
        return getattr(self, part[0].replace(" ", "_"))(part, front, gap)

    def cell(self, part, front, gap):
        return self.look(front, gap or part[3] == "bare")

    def row(self, part, front, gap):
        for inner in part[1]:
            front = self.go(inner, front, gap)
        return front

    def choice(self, part, front, gap):
        front = self.look(front, gap or part[1] == "bare")
        behind = cut(front, 0)
        for number, inner in part[2]:
            behind = union(behind, self.go(inner, front, gap))
        return behind

    def times(self, part, front, gap):
        for turn in range(part[1]):
            front = self.go(part[2], front, gap)
        return front

    def loop(self, inner, front, gap, enter):
        entry = self.take()
        self.fail_if(not isinstance(entry, tuple) or len(entry) != len(front))
        self.fail_if(not all(isinstance(one, LengthSet) for one in entry))
        whole = [self.bits(one) for one in entry]
        self.fail_if(not self.is_in(front, whole))
        self.fail_if(not self.is_in(self.go(inner, cut(whole, enter), gap), whole))
        return whole

    def counted(self, part, front, gap):
        word, manner, most, ahead, inner = part
        front = self.look(front, gap or manner == "bare")
        enter = leave = self.whole
        if ahead is not None:
            enter, leave = self.only_from(size_of(inner) + ahead), self.only_from(ahead)
        if most is None:
            return cut(self.loop(inner, front, gap, enter), leave)
        behind = front
        for turn in range(most):
            front = self.go(inner, cut(front, enter), gap)
            behind = union(behind, front)
        return cut(behind, leave)

    def through(self, part, starts):
        entry = self.take()
        self.fail_if(not isinstance(entry, LengthSet))
        return self.bits(entry) & starts

    def within(self, part, front, gap):
        word, manner, most, limit, rest, inner = part
        front = self.look(front, gap or manner == "bare")
        lefts = 0
        for one in front:
            lefts |= one
        # Of a set that goes on without an end, some numbers are left between the middle and the bound.
        middle = self.bound // 2
        is_endless = (lefts & self.whole >> 50) >> middle > 0
        starts = self.whole if is_endless else (1 << (lefts & (1 << middle) - 1).bit_length()) - 1
        if most is not None:
            starts &= (1 << most + 1) - 1
        through = self.through(part, starts)
        self.go(inner, begin(starts, inner), False)
        behind = self.go(inner, begin(starts & ~through, inner), False)
        self.fail_if(any(mask & (1 if rest == "exact" else self.sure) for mask in behind))
        if limit == "told" and most != 0:
            further = lefts if most is None else lefts & (1 << most) - 1
            self.go(inner, begin(further, inner), True)
        passed = cut(front, 0)
        for at, mask in enumerate(front):
            for many in range(self.bound - self.many_sure):
                if through >> many & 1:
                    passed[(at + many) % len(front)] |= mask >> many
        return passed

    def fill(self, part, front, gap):
        whole = self.loop(part[1], front, gap, self.whole if gap else self.only_from(1))
        return cut(whole, 0 if gap else 1)

    def if_left(self, part, front, gap):
        if gap:
            return self.go(part[1], front, gap)
        return union(self.go(part[1], cut(front, self.only_from(1)), gap), cut(front, 1))

    def need(self, part, front, gap):
        return cut(front, self.only_from(part[1]))

    def pad(self, part, front, gap):
        for number in range(part[1] - 1):
            stays = [mask if at % part[1] == 0 else 0 for at, mask in enumerate(front)]
            goes = [0 if at % part[1] == 0 else mask for at, mask in enumerate(front)]
            front = union(stays, self.look(goes, gap or part[2] == "bare"))
        return front


class Least(Walked):
    """A walk that makes the least entries itself, and keeps them."""

    def __init__(self, bound=500, sure=40):
        Walked.__init__(self, (), bound, sure)
        self.found = []
        self.readable = {}

    def loop(self, inner, front, gap, enter):
        at = len(self.found)
        self.found.append(None)
        whole = front
        while True:
            del self.found[at + 1:]
            more = union(whole, self.go(inner, cut(whole, enter), gap))
            if more == whole:
                break
            whole = more
        self.found[at] = tuple(mask & self.sure for mask in whole)
        return whole

    def through(self, part, starts):
        if part not in self.readable:
            self.readable[part] = self.all_readable(part)
        self.found.append(self.readable[part] & starts & self.sure)
        return self.readable[part] & starts

    def all_readable(self, part):
        """The lengths with which the part of a within can be read: of the first 200 each is tried on its own."""
        found = [self.is_readable(part, length) for length in range(200)]
        period = min(many for many in range(1, 100) if found[80:200 - many] == found[80 + many:])
        while len(found) < self.bound:
            found.append(found[-period])
        return sum(1 << length for length, is_read in enumerate(found) if is_read)

    def is_readable(self, part, length):
        other = Least(self.bound, self.many_sure)
        other.readable = self.readable
        try:
            behind = other.go(part[-1], begin(1 << length, part[-1]), False)
        except Fails:
            # With this length, which never comes here, it looks beyond.
            return False
        return any(mask & (1 if part[4] == "exact" else self.whole) for mask in behind)


def fits(part, entries):
    """Whether the walk takes all entries and nothing in it fails."""
    walked = Walked(entries)
    try:
        walked.go(part, begin(walked.whole, part), False)
    except Fails:
        return False
    return not walked.entries


def least_entries(part):
    """The least entries, each cut to the numbers that are sure, for a reader that never looks beyond."""
    walked = Least()
    walked.go(part, begin(walked.whole, part), False)
    return walked.found


def sure_bits(entry):
    """An entry of a paper in the form of those."""
    if isinstance(entry, tuple):
        return tuple(sure_bits(one) for one in entry)
    return sum(1 << number for number in entry.below(40))
