"""What is surely left where a part is read, and papers on readers, which can be checked."""

from withinlimits.errors import NoWord, TooLarge
from withinlimits.lengths import verdict_of
from withinlimits.parts import is_in_told, leads, limits_around, part_at
from withinlimits.reading import check_reader
from withinlimits.sets import LengthSet
from withinlimits.walks import Walk, further_of, lefts_of, lengths_through, sets_of, starts_of

MOST_STEPS = 200000
MOST_ENTRIES = 200000


def steps_at(step, path):
    """The steps of the part at a path, of this step and of those in it."""
    if step.path == path:
        return [step]
    found = []
    for inner in step.under:
        if inner.path == path[:len(inner.path)]:
            found.extend(steps_at(inner, path))
    return found


def joined_lefts(walk, fronts):
    """The set of all that can be left in any of these fronts of a walk."""
    return lefts_of(walk, [mask for front in fronts for mask in front])


def lefts_at(reader, path):
    """The set of all numbers of cells that can be left when the reading of the part at a path begins."""
    check_reader(reader)
    if not leads(reader.part, path) or is_in_told(reader.part, path):
        raise NoWord(path)
    walk = Walk(reader.study, (), LengthSet.full(), False)
    for around in limits_around(reader.part, path):
        lefts = joined_lefts(walk, [step.known for step in steps_at(walk.step, around)])
        starts = starts_of(lefts, part_at(reader.part, around)[2])
        walk = Walk(reader.study, (*around, 0), starts, False)
    return joined_lefts(walk, [step.had for step in steps_at(walk.step, path)])


def surely_left(reader, path):
    """The least number of cells that can be left there, or None if the part is never read."""
    return lefts_at(reader, path).least()


class Entries:
    """The entries of a paper that is being made; those of equal walks are found once."""

    def __init__(self, study):
        self.study = study
        self.found = []
        self.walked = {}
        self.many = 0


def add_entries(entries, found):
    if len(entries.found) + len(found) > MOST_ENTRIES:
        raise TooLarge("paper")
    entries.found.extend(found)


def add_walk(entries, path, begin, is_gap):
    """Add the entries of a walk through the part at a path."""
    key = (path, begin.marks, begin.cycle, is_gap)
    if key in entries.walked:
        add_entries(entries, entries.walked[key])
        return
    ahead = len(entries.found)
    walk = Walk(entries.study, path, begin, is_gap)
    entries.many = entries.many + walk.many
    if entries.many > MOST_STEPS:
        raise TooLarge("paper")
    add_step(entries, walk, walk.step)
    entries.walked[key] = entries.found[ahead:]


def add_within(entries, walk, step):
    """Add the entry of a within, and those of the walks through its part."""
    word, manner, most, limit, rest, inner = step.part
    lefts = lefts_of(walk, step.known)
    starts = starts_of(lefts, most)
    through = lengths_through(entries.study, step) & starts
    add_entries(entries, [through])
    path = (*step.path, 0)
    add_walk(entries, path, starts, False)
    add_walk(entries, path, starts - through, False)
    if limit == "told" and most != 0:
        add_walk(entries, path, further_of(lefts, most), True)


def add_step(entries, walk, step):
    """Add the entries of a step, and of those in it."""
    if step.part[0] == "fill" or (step.part[0] == "counted" and step.part[2] is None):
        add_entries(entries, [sets_of(walk, step.known)])
    if step.part[0] == "within":
        add_within(entries, walk, step)
    for inner in step.under:
        add_step(entries, walk, inner)


def paper_of(reader):
    """A right paper on a reader."""
    verdict = verdict_of(reader)
    if not verdict:
        return ("beyond", tuple(verdict.row))
    entries = Entries(reader.study)
    add_walk(entries, (), LengthSet.full(), False)
    return ("never", tuple(entries.found))
