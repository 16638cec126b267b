"""Parts for tests, written shorter."""

CELL = ("cell", 0, None, "checked")
BARE = ("cell", 0, None, "bare")
ONE = ("cell", 1, 1, "checked")
NOTHING = ("row", ())
GREAT = 10 ** 30


def row(*parts):
    return ("row", parts)


def fill(part):
    return ("fill", part)


def if_left(part):
    return ("if left", part)


def times(many, part):
    return ("times", many, part)


def counted(part, most=None, ahead=None, manner="checked"):
    return ("counted", manner, most, ahead, part)


def within(part, limit="nested", rest="skip", most=None, manner="checked"):
    return ("within", manner, most, limit, rest, part)


def choice(*parts, manner="checked"):
    """A choice whose options have the numbers from 0 on."""
    return ("choice", manner, tuple(enumerate(parts)))


def pad(many, manner="checked"):
    return ("pad", many, manner)
