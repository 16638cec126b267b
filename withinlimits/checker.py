"""Papers on readers, checked: by a row that is read, or by a walk through the parts of the reader."""

from withinlimits.errors import NoPaper, NoRow, NoWord, TooLarge
from withinlimits.fronts import Front
from withinlimits.parts import MANNER_AT, size_of
from withinlimits.plain import is_one_of
from withinlimits.points import rhythm_of
from withinlimits.reading import Reader, check_reader
from withinlimits.sets import LengthSet
from withinlimits.walks import further_of, starts_of

MOST_STEPS = 200000


class Check:
    """How far the walk has come: the entries of the paper, and how many of them were taken."""

    def __init__(self, entries):
        self.entries = entries
        self.taken = 0
        self.steps = 0


def must(holds):
    """Raise NoPaper unless this holds."""
    if not holds:
        raise NoPaper()


def next_entry(check):
    """The next entry of the paper."""
    must(check.taken < len(check.entries))
    check.taken = check.taken + 1
    return check.entries[check.taken - 1]


def next_front(check, period):
    """The front of the next entry."""
    entry = next_entry(check)
    must(isinstance(entry, tuple))
    must(len(entry) == period)
    must(all([isinstance(one, LengthSet) for one in entry]))
    return Front(*entry)


def next_set(check):
    """The set of the next entry."""
    entry = next_entry(check)
    must(isinstance(entry, LengthSet))
    return entry


def walk_look(check, part, front, is_gap):
    if is_gap or part[MANNER_AT[part[0]]] == "bare":
        must(0 not in front)
    return front.read()


def walk_row(check, part, front, is_gap):
    for inner in part[1]:
        front = walk(check, inner, front, is_gap)
    return front


def walk_choice(check, part, front, is_gap):
    front = walk_look(check, part, front, is_gap)
    behind = front & LengthSet.none()
    for number, inner in part[2]:
        behind = behind | walk(check, inner, front, is_gap)
    return behind


def walk_times(check, part, front, is_gap):
    for turn in range(part[1]):
        front = walk(check, part[2], front, is_gap)
    return front


def walk_loop(check, inner, front, is_gap, enter):
    """Go through turns without a greatest number, by the next entry."""
    loop = next_front(check, front.period)
    must(front <= loop)
    must(walk(check, inner, loop & enter, is_gap) <= loop)
    return loop


def walk_counted(check, part, front, is_gap):
    word, manner, most, ahead, inner = part
    front = walk_look(check, part, front, is_gap)
    enter = leave = LengthSet.full()
    if ahead is not None:
        enter = LengthSet.from_least(size_of(inner) + ahead)
        leave = LengthSet.from_least(ahead)
    if most is None:
        return walk_loop(check, inner, front, is_gap, enter) & leave
    behind = front
    for turn in range(most):
        front = walk(check, inner, front & enter, is_gap)
        behind = behind | front
    return behind & leave


def walk_within(check, part, front, is_gap):
    word, manner, most, limit, rest, inner = part
    front = walk_look(check, part, front, is_gap)
    lefts = front.all_lefts()
    starts = starts_of(lefts, most)
    through = next_set(check) & starts
    rhythm = rhythm_of(inner)
    walk(check, inner, Front.begin(starts, rhythm), False)
    behind = walk(check, inner, Front.begin(starts - through, rhythm), False)
    must(0 not in behind)
    must(rest == "exact" or not behind)
    if limit == "told" and most != 0:
        walk(check, inner, Front.begin(further_of(lefts, most), rhythm), True)
    return front.passed(through)


def walk_fill(check, part, front, is_gap):
    enter = LengthSet.full() if is_gap else LengthSet.from_least(1)
    loop = walk_loop(check, part[1], front, is_gap, enter)
    return loop & (LengthSet.none() if is_gap else LengthSet.only(0))


def walk_if_left(check, part, front, is_gap):
    if is_gap:
        return walk(check, part[1], front, is_gap)
    return walk(check, part[1], front & LengthSet.from_least(1), is_gap) | front & LengthSet.only(0)


def walk_need(check, part, front, is_gap):
    return front & LengthSet.from_least(part[1])


def walk_pad(check, part, front, is_gap):
    many = part[1]
    for number in range(many - 1):
        stays = [one if place % many == 0 else LengthSet.none() for place, one in enumerate(front.sets())]
        goes = [one if place % many != 0 else LengthSet.none() for place, one in enumerate(front.sets())]
        front = Front(*stays) | walk_look(check, part, Front(*goes), is_gap)
    return front


WALKS = {
    "cell": walk_look, "row": walk_row, "choice": walk_choice, "times": walk_times, "counted": walk_counted,
    "within": walk_within, "fill": walk_fill, "if left": walk_if_left, "need": walk_need, "pad": walk_pad,
}


def walk(check, part, front, is_gap):
    """The front behind a part; raises NoPaper where the walk fails."""
    check.steps = check.steps + 1
    if check.steps > MOST_STEPS:
        raise TooLarge("steps")
    action = WALKS[part[0]]
    return action(check, part, front, is_gap)


def is_never(reader, entries):
    """Whether the walk takes all entries and does not fail."""
    check = Check(entries)
    try:
        walk(check, reader.part, Front.begin(LengthSet.full(), rhythm_of(reader.part)), False)
    except NoPaper:
        return False
    return check.taken == len(entries)


def is_beyond(reader, row):
    """Whether these are the cells of a row with which the reader looks beyond."""
    try:
        outcome = reader(list(row))
    except NoRow:
        return False
    return outcome.kind == "beyond"


def accepts(reader, paper):
    """Whether any object is a right paper on a reader."""
    check_reader(reader)
    if not isinstance(paper, tuple) or len(paper) != 2:
        return False
    word, told = paper
    if not is_one_of(word, ("beyond", "never")) or not isinstance(told, tuple):
        return False
    return is_beyond(reader, told) if word == "beyond" else is_never(reader, told)


class Claim:
    """What a right paper says of its reader."""

    def __init__(self, reader, paper):
        if not accepts(reader, paper):
            raise NoPaper()
        self.word = paper[0]
        self.part = reader.part

    def __call__(self, other):
        return isinstance(other, Reader) and other.part == self.part


def claim_of(reader, paper):
    """The claim of a right paper."""
    try:
        return Claim(reader, paper)
    except NoPaper as why:
        raise NoWord("paper") from why
