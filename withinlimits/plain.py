"""Plain values: what counts as an integer or a word, and a little arithmetic."""


def is_integer(value):
    """Whether this is an integer; True and False are none."""
    return isinstance(value, int) and not isinstance(value, bool)


def is_from(value, low, high=None):
    """Whether this is an integer from low on, and not above high where this is not None."""
    return is_integer(value) and value >= low and (high is None or value <= high)


def is_from_or_none(value, low, high=None):
    """Whether this is None or an integer as for is_from."""
    return value is None or is_from(value, low, high)


def is_one_of(value, words):
    """Whether this is one of these words."""
    # An object of another kind may have any == of its own, so it is not compared.
    return isinstance(value, str) and value in words


def common_multiple(one, two):
    """The least common multiple of two integers from 1 on."""
    greatest, rest = one, two
    while rest > 0:
        greatest, rest = rest, greatest % rest
    return one // greatest * two
