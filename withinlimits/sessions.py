"""Sessions: a reader that is changed step by step, with steps that can be undone or only tried."""

from withinlimits.errors import NoChange, NoWord
from withinlimits.lengths import verdict_of
from withinlimits.menus import changed, check_goal, has_reached
from withinlimits.parts import leads, part_at, replaced
from withinlimits.plain import is_integer
from withinlimits.reading import Reader, check_reader


class Moment:
    """The reader of a session behind a step, the steps up to there, and the moment ahead of it."""

    def __init__(self, present, steps, earlier):
        self.present = present
        self.steps = steps
        self.earlier = earlier


def is_same_value(value, thing):
    """Whether any object equals an integer or a text of a change; True equals no integer here."""
    if is_integer(value):
        return is_integer(thing) and value == thing
    return isinstance(thing, str) and value == thing


def is_same_path(path, thing):
    """Whether any object equals a path."""
    return isinstance(thing, tuple) and len(thing) == len(path) and all(
        [is_same_value(index, other) for index, other in zip(path, thing)])


def is_same_change(change, thing):
    """Whether any object equals a change."""
    if not isinstance(thing, tuple) or len(thing) != len(change) or not is_same_path(change[1], thing[1]):
        return False
    return all([is_same_value(change[index], thing[index]) for index in range(len(change)) if index != 1])


def changes_of(step):
    """The changes that a step made, as its entry in a history tells."""
    if step == "reader" or step[:1] == ("part",):
        return ()
    return step


def apply_each(session, changes):
    """Make each change in a step of its own; raises NoWord with the index of the first that cannot be made."""
    for index, change in enumerate(changes):
        try:
            session.apply(change)
        except NoChange as why:
            raise NoWord(index) from why


class Trial:
    """A block behind which a session is as it was when the trial was made, unless that is to be kept."""

    def __init__(self, owner):
        self.owner = owner
        self.moment = owner.now
        self.kept = None

    def keep(self):
        """Have what is done in the block kept, if it ends without an error."""
        self.kept = True

    def __enter__(self):
        return self

    def __exit__(self, kind, value, trace):
        if kind is not None or self.kept is None:
            self.owner.now = self.moment


class Session:
    """A reader, with the steps by which it came to be as it is."""

    def __init__(self, reader):
        check_reader(reader)
        self.now = Moment(reader, (), None)

    @property
    def reader(self):
        """The present reader."""
        return self.now.present

    @reader.setter
    def reader(self, value):
        self.put(value)

    def put(self, reader):
        """Take another reader, as a step."""
        check_reader(reader)
        self.now = Moment(reader, (*self.now.steps, "reader"), self.now)

    def apply(self, *changes):
        """Make changes of the reader, as one step."""
        present = self.now.present
        self.now = Moment(changed(present, *changes), (*self.now.steps, changes), self.now)

    def verdict(self):
        """The verdict on the present reader."""
        return verdict_of(self.now.present)

    def history(self):
        """A new list of what the steps were."""
        return list(self.now.steps)

    def undo(self):
        """Take the last step back; returns whether there was one."""
        if self.now.earlier is None:
            return False
        self.now = self.now.earlier
        return True

    def trial(self):
        """A trial for a with block, made now."""
        return Trial(self)

    def during(self, call):
        """What call returns for a new trial, within its block."""
        with self.trial() as attempt:
            return call(attempt)

    def tried(self, *changes, goal="never"):
        """Whether the reader would reach a goal with these changes, made step by step."""
        check_goal(goal)
        with self.trial():
            apply_each(self, changes)
            return has_reached(self.now.present, goal)

    def kept_if(self, *changes, goal="never"):
        """Make these changes step by step, but keep them only if the reader then has reached a goal."""
        check_goal(goal)
        with self.trial() as attempt:
            apply_each(self, changes)
            has_goal = has_reached(self.now.present, goal)
            if has_goal:
                attempt.keep()
            return has_goal

    def __iadd__(self, other):
        self.apply(other)
        return self

    def __iter__(self):
        raise TypeError("a session is not iterated over")

    def __getitem__(self, at):
        if not leads(self.now.present.part, at):
            raise NoWord(at)
        return part_at(self.now.present.part, at)

    def __setitem__(self, at, worth):
        if not leads(self.now.present.part, at):
            raise NoWord(at)
        other = Reader(replaced(self.now.present.part, at, worth))
        self.now = Moment(other, (*self.now.steps, ("part", at)), self.now)

    def __call__(self, row):
        present = self.now.present
        return present(row)

    def __len__(self):
        return len(self.now.steps)

    def __contains__(self, x):
        return any([is_same_change(change, x) for step in self.now.steps for change in changes_of(step)])
