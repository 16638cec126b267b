"""Changes of readers, and which of a menu make a reader right."""

from withinlimits.cells import LIMITS, RESTS
from withinlimits.errors import NoChange, NoPart, NoWord, TooLarge
from withinlimits.lengths import lengths_of
from withinlimits.parts import MANNER_AT, leads, part_at, parts_of, size_of, with_field, with_parts
from withinlimits.plain import index_lists, is_from, is_one_of
from withinlimits.reading import Reader, check_reader
from withinlimits.work import idle_of

MOST_CHANGES = 6
GOALS = ("never", "ends", "bounded")


def can_need(part, number):
    return is_from(number, 1, 9)


def can_ahead(part, number):
    return part[0] == "counted" and size_of(part[4]) is not None and is_from(number, 0, 9)


def can_most(part, number):
    if part[0] == "within":
        return is_from(number, 0, 20)
    return part[0] == "counted" and is_from(number, 0, 9)


def can_limit(part, word):
    return part[0] == "within" and is_one_of(word, LIMITS)


def can_rest(part, word):
    return part[0] == "within" and is_one_of(word, RESTS)


# For each word of a change what can be put at a part, and in which of its places.
CHANGES = {
    "need": can_need, "ahead": can_ahead, "most": can_most, "limit": can_limit, "rest": can_rest,
}
PLACES = {"ahead": 3, "most": 2, "limit": 3, "rest": 4}


def is_change(part, thing):
    """Whether any object is a change of a part or of one in it."""
    if not isinstance(thing, tuple) or len(thing) not in (2, 3) or not leads(part, thing[1]):
        return False
    target = part_at(part, thing[1])
    if len(thing) == 2:
        return is_one_of(thing[0], ("look",)) and target[0] in MANNER_AT
    if not isinstance(thing[0], str) or thing[0] not in CHANGES:
        return False
    action = CHANGES[thing[0]]
    return action(target, thing[2])


def check_changes(reader, changes):
    """Raise NoChange with the first object that is no change of the reader, or is one for the same word and path."""
    made = {}
    for change in changes:
        if not is_change(reader.part, change) or change[:2] in made:
            raise NoChange(change)
        made[change[:2]] = True


def with_changes(part, path, changes):
    """The part at a path, and those in it, with these changes."""
    inner = [with_changes(one, (*path, index), changes) for index, one in enumerate(parts_of(part))]
    if len(inner) > 0:
        part = with_parts(part, inner)
    needs = []
    for change in [one for one in changes if one[1] == path]:
        if change[0] == "look":
            part = with_field(part, MANNER_AT[part[0]], "checked")
        elif change[0] == "need":
            needs.append(("need", change[2]))
        else:
            part = with_field(part, PLACES[change[0]], change[2])
    return ("row", (*needs, part)) if len(needs) > 0 else part


def changed(reader, *changes):
    """The reader with all these changes."""
    check_reader(reader)
    check_changes(reader, changes)
    try:
        return Reader(with_changes(reader.part, (), changes))
    except NoPart as why:
        raise NoChange(changes) from why


def check_goal(goal):
    """Raise NoWord unless this is a goal."""
    if not is_one_of(goal, GOALS):
        raise NoWord(goal)


def has_reached(reader, goal):
    """Whether a reader has reached a goal."""
    if lengths_of(reader, "beyond"):
        return False
    if goal == "ends":
        return not lengths_of(reader, "endless")
    return goal == "never" or idle_of(reader) is None


def reaches(reader, changes, goal):
    """Whether a reader with these changes makes a reader, and that has reached a goal."""
    try:
        other = changed(reader, *changes)
    except NoChange:
        return False
    return has_reached(other, goal)


def least_changes(reader, menu, *, goal="never"):
    """The lists of changes of a menu with which a reader reaches a goal, while with no part of them it does."""
    check_reader(reader)
    check_goal(goal)
    check_changes(reader, menu)
    if len(menu) > MOST_CHANGES:
        raise TooLarge("menu")
    found = []
    for chosen in index_lists(len(menu)):
        if any([all([index in chosen for index in one]) for one in found]):
            continue
        if reaches(reader, [menu[index] for index in chosen], goal):
            found.append(chosen)
    return [[menu[index] for index in chosen] for chosen in found]
