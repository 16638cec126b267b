"""A console: a session that is asked and changed by lines of text."""

from withinlimits.errors import LimitError
from withinlimits.lengths import lengths_of
from withinlimits.sessions import Session
from withinlimits.sites import sites
from withinlimits.tables import KINDS
from withinlimits.texts import show

MOST_DIGITS = 31
UNKNOWN = ("unknown",)
NUMBERED = ("need", "ahead", "most")
WORDED = ("limit", "rest")


def is_number(word):
    return (word.isascii() and word.isdigit() and len(word) <= MOST_DIGITS
            and (word == "0" or not word.startswith("0")))


def are_numbers(words):
    return all([is_number(word) for word in words])


def is_path(word):
    return word == "top" or are_numbers(word.split("."))


def path_of(word):
    return () if word == "top" else tuple([int(index) for index in word.split(".")])


def path_shown(path):
    return ".".join([str(index) for index in path]) if len(path) > 0 else "top"


def is_change(words):
    """Whether these words have the form of a change."""
    if len(words) == 2:
        return words[0] == "look" and is_path(words[1])
    if len(words) != 3 or not is_path(words[1]):
        return False
    return words[0] in WORDED or (words[0] in NUMBERED and is_number(words[2]))


def change_of(words):
    """The change that words of this form tell."""
    if len(words) == 2:
        return (words[0], path_of(words[1]))
    return (words[0], path_of(words[1]), int(words[2]) if words[0] in NUMBERED else words[2])


def cells_shown(cells):
    return " ".join([str(cell) for cell in cells])


def answer_show(session, words):
    return show(session.reader).split("\n")


def answer_checks(session, words):
    return [f"{path_shown(path):<9} {word}" for path, word in sites(session.reader)]


def answer_steps(session, words):
    return [f"{len(session):>3} steps"]


def answer_undo(session, words):
    return ["undone" if session.undo() else "nothing"]


def answer_verdict(session, words):
    verdict = session.verdict()
    if verdict:
        return ["never"]
    if len(verdict.row) == 0:
        return [f"beyond at {verdict.at}"]
    return [f"beyond at {verdict.at}: {cells_shown(verdict.row)}"]


def answer_read(session, words):
    outcome = session([int(word) for word in words])
    lines = [f"{outcome.kind} at {outcome.at}", f"{outcome.looks:>6} looks", f"{outcome.turns:>6} turns"]
    return lines + [f"why {outcome.why}"] if outcome.kind == "refused" else lines


def answer_lengths(session, words):
    lengths = lengths_of(session.reader, words[0])
    if not lengths:
        return ["none"]
    later = [number for number in range(lengths.start, lengths.start + lengths.period) if number in lengths]
    shown = cells_shown(lengths.early + later)
    return [f"{shown} +{lengths.period}" if len(later) > 0 else shown]


def answer_change(session, words):
    session.apply(change_of(words))
    return ["changed"]


def answer_try(session, words):
    return ["reached" if session.tried(change_of(words)) else "not reached"]


def is_nothing(words):
    return len(words) == 0


def is_kind(words):
    return len(words) == 1 and words[0] in KINDS


FORMS = {
    "show": is_nothing, "checks": is_nothing, "steps": is_nothing, "undo": is_nothing, "verdict": is_nothing,
    "read": are_numbers, "lengths": is_kind, "change": is_change, "try": is_change,
}

ANSWERS = {
    "show": answer_show, "checks": answer_checks, "steps": answer_steps, "undo": answer_undo,
    "verdict": answer_verdict, "read": answer_read, "lengths": answer_lengths, "change": answer_change,
    "try": answer_try,
}


class Console:
    """A console with a new session."""

    def __init__(self, reader):
        self.held = Session(reader)

    @property
    def session(self):
        """The session of the console."""
        return self.held

    def answer(self, line):
        """The lines of the answer to a line."""
        words = line.split(" ")
        if words[0] not in FORMS:
            return list(UNKNOWN)
        form = FORMS[words[0]]
        # A word that is empty has none of the forms.
        if "" in words or not form(words[1:]):
            return list(UNKNOWN)
        action = ANSWERS[words[0]]
        try:
            return action(self.held, words[1:])
        except LimitError:
            return ["refused"]
