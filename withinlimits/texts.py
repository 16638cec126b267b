"""Texts of readers: a line for each part, and below it, two blanks deeper, those of its parts."""

from withinlimits.cells import LIMITS, RESTS
from withinlimits.errors import NoText
from withinlimits.parts import MANNER_AT, parts_of
from withinlimits.reading import Reader

STEP = 2
MOST_BLANKS = 40
MOST_DIGITS = 7
LONE_HOLDERS = ("times", "counted", "within", "fill", "if left", "option")


def shown_number(word, number):
    """A word and a number, with a blank ahead; nothing if there is no number."""
    return "" if number is None else f" {word} {number}"


def show_cell(part):
    word, low, high, manner = part
    return f"cell {low}.." if high is None else f"cell {low}..{high}"


def show_word(part):
    return part[0]


def show_word_and_number(part):
    return f"{part[0]} {part[1]}"


def show_counted(part):
    word, manner, most, ahead, inner = part
    return word + shown_number("most", most) + shown_number("ahead", ahead)


def show_within(part):
    word, manner, most, limit, rest, inner = part
    return word + shown_number("most", most) + f" {limit} {rest}"


SHOWN = {
    "cell": show_cell, "row": show_word, "choice": show_word, "times": show_word_and_number, "counted": show_counted,
    "within": show_within, "fill": show_word, "if left": show_word, "need": show_word_and_number,
    "pad": show_word_and_number,
}


def line_of(part):
    """The line of a part itself, without the blanks ahead."""
    action = SHOWN[part[0]]
    line = action(part)
    if part[0] in MANNER_AT and part[MANNER_AT[part[0]]] == "bare":
        return "bare " + line
    return line


def lines_of(part, blanks):
    """The lines of a part and of all in it, so many blanks deep."""
    lines = [" " * blanks + line_of(part)]
    for index, inner in enumerate(parts_of(part)):
        deeper = blanks + STEP
        if part[0] == "choice":
            lines.append(" " * deeper + f"option {part[2][index][0]}")
            deeper = deeper + STEP
        lines.extend(lines_of(inner, deeper))
    return lines


def show(reader):
    """The text of a reader."""
    return "\n".join(lines_of(reader.part, 0))


class Line:
    """A line that was read: what it says of its part, and the lines below it that belong to it."""

    def __init__(self, head):
        self.head = head
        self.under = []


def is_number(text):
    return (text.isascii() and text.isdigit() and len(text) <= MOST_DIGITS
            and (text == "0" or not text.startswith("0")))


def read_option_number(words, name):
    """The number behind a name that stands first, or None, and the words behind it."""
    if len(words) >= 2 and words[0] == name and is_number(words[1]):
        return int(words[1]), words[2:]
    return None, words


def cell_head(words, manner):
    low, dots, high = words[1].partition("..") if len(words) == 2 else ("", "", "")
    if dots == "" or not is_number(low) or not (high == "" or is_number(high)):
        return None
    return ("cell", int(low), None if high == "" else int(high), manner)


def word_head(words, manner):
    return (words[0],) if len(words) == 1 else None


def if_left_head(words, manner):
    return ("if left",) if words == ["if", "left"] else None


def choice_head(words, manner):
    return ("choice", manner) if len(words) == 1 else None


def number_head(words, manner):
    return (words[0], int(words[1])) if len(words) == 2 and is_number(words[1]) else None


def pad_head(words, manner):
    return ("pad", int(words[1]), manner) if len(words) == 2 and is_number(words[1]) else None


def counted_head(words, manner):
    most, words = read_option_number(words[1:], "most")
    ahead, words = read_option_number(words, "ahead")
    return ("counted", manner, most, ahead) if len(words) == 0 else None


def within_head(words, manner):
    most, words = read_option_number(words[1:], "most")
    if len(words) != 2 or words[0] not in LIMITS or words[1] not in RESTS:
        return None
    return ("within", manner, most, words[0], words[1])


HEADS = {
    "cell": cell_head, "row": word_head, "choice": choice_head, "times": number_head, "counted": counted_head,
    "within": within_head, "fill": word_head, "if": if_left_head, "need": number_head, "pad": pad_head,
    "option": number_head,
}


def head_of(text):
    """What a line without the blanks ahead says, or None if no line is written so."""
    words = text.split(" ")
    manner = "checked"
    if words[0] == "bare":
        words = words[1:]
        manner = "bare"
    if len(words) == 0 or words[0] not in HEADS or (manner == "bare" and words[0] not in MANNER_AT):
        return None
    action = HEADS[words[0]]
    return action(words, manner)


def lacks_part(line):
    """Whether a line needs one more line below it."""
    return line.head[0] in LONE_HOLDERS and len(line.under) == 0


def can_stand(around, level, head):
    """Whether a line can stand so deep below these, each of which stands below the one ahead of it."""
    is_option = head[0] == "option"
    if len(around) == 0:
        return level == 0 and not is_option
    if level == 0 or level > len(around) or (lacks_part(around[-1]) and level < len(around)):
        return False
    parent = around[level - 1]
    if parent.head[0] == "choice":
        return is_option
    return not is_option and (parent.head[0] == "row" or lacks_part(parent))


def read_lines(lines):
    """The first line, with those below it; raises NoText."""
    around = []
    for number, text in enumerate(lines):
        words = text.lstrip(" ")
        blanks = len(text) - len(words)
        head = head_of(words)
        level = blanks // STEP
        if head is None or blanks > MOST_BLANKS or blanks % STEP != 0 or not can_stand(around, level, head):
            raise NoText(number)
        line = Line(head)
        del around[level:]
        if level > 0:
            around[-1].under.append(line)
        around.append(line)
    if lacks_part(around[-1]):
        raise NoText(len(lines))
    return around[0]


def part_of(line):
    """The part, or the option, that a line and those below it describe."""
    parts = [part_of(one) for one in line.under]
    if line.head[0] in ("row", "choice"):
        return (*line.head, tuple(parts))
    if line.head[0] == "option":
        return (line.head[1], *parts)
    return (*line.head, *parts)


def read_reader(text):
    """The reader with this text."""
    if not isinstance(text, str):
        raise NoText(None)
    return Reader(part_of(read_lines(text.split("\n"))))
