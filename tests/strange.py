"""Objects that answer comparisons in odd ways, for tests of what accepts any object."""


class EqualToAll:
    """An object that says it equals everything."""

    def __eq__(self, other):
        return True

    __hash__ = None


class Touchy:
    """An object that must not be compared, tested or measured."""

    def __eq__(self, other):
        raise AssertionError("compared")

    def __bool__(self):
        raise AssertionError("tested")

    def __len__(self):
        raise AssertionError("measured")

    __hash__ = None


def strange_objects():
    """Objects that are no integers, no words, no parts, no limits and no rows of integers."""
    return [None, True, False, 1.0, 1.5, "", "1", "cell", b"x", [], [1], (), (1,), {}, {1: 2}, {1}, object(), int,
            EqualToAll(), Touchy()]
