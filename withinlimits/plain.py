"""Plain values: what counts as an integer or a word, and a little arithmetic."""


def is_integer(value):
    """Whether this is an integer; True and False are none."""
    return isinstance(value, int) and not isinstance(value, bool)


def is_from(value, low, high=None):
    """Whether this is an integer from low on, and not above high where this is not None."""
    return is_integer(value) and value >= low and (high is None or value <= high)


def is_from_or_none(value, low, high=None):
    """Whether this is None or an integer as for is_from."""
    return value is None or is_from(value, low, high)


def is_one_of(value, words):
    """Whether this is one of these words."""
    # An object of another kind may have any == of its own, so it is not compared.
    return isinstance(value, str) and value in words


def common_divisor(one, two):
    """The greatest common divisor of two integers from 1 on."""
    greatest, rest = one, two
    while rest > 0:
        greatest, rest = rest, greatest % rest
    return greatest


def common_multiple(one, two):
    """The least common multiple of two integers from 1 on."""
    return one // common_divisor(one, two) * two


def index_lists(many):
    """All lists of ascending indexes below many, shorter ones first, those of one length in order."""
    lists = [[]]
    longest = [[]]
    while len(longest) > 0:
        longest = [[*one, index] for one in longest for index in range(one[-1] + 1 if len(one) > 0 else 0, many)]
        lists = lists + longest
    return lists
