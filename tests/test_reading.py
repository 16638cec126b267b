import unittest

from drawn import all_rows, drawn_readers
from made import BARE, CELL, GREAT, NOTHING, counted, fill, if_left, row, times, within
from strange import EqualToAll, strange_objects
from withinlimits.cells import Cursor
from withinlimits.errors import NoPart, NoRow
from withinlimits.reading import Outcome, Reader

ZERO = ("cell", 0, 0, "checked")


def nested(part, many):
    for time in range(many):
        part = row(part)
    return part


def at(path, part):
    """A part with this part at a path."""
    for index in reversed(path):
        part = row(*[CELL] * index, part)
    return part


class Readings(unittest.TestCase):
    def tells(self, part, *cases):
        """Each case: the cells, and (kind, at, why, numbers, looks, turns)."""
        reader = Reader(part)
        for cells, wanted in cases:
            cells = list(cells)
            outcome = reader(cells)
            self.assertEqual(outcome.told(), wanted, (part, cells))
            self.assertEqual((outcome.kind, outcome.at, outcome.why, tuple(outcome.numbers), outcome.looks,
                              outcome.turns), wanted)
            self.assertEqual(outcome.work, wanted[4] + wanted[5])
            self.assertIs(bool(outcome), wanted[0] == "read")


class NoPartPaths(unittest.TestCase):
    def wrong(self, part, path):
        with self.assertRaises(NoPart) as caught:
            Reader(part)
        self.assertEqual(caught.exception.path, path)
        self.assertIsInstance(caught.exception.path, tuple)

    def test_other_objects(self):
        for thing in (*strange_objects(), "fill", ("look", 1), ("fill",), ["fill", CELL], ("row", [CELL]),
                      ("cell", 0, None), ("cell", True, None, "bare"), ("cell", 0, True, "bare"),
                      ("cell", False, None, "bare"), ("need", True), ("pad", 2), ("times", True, CELL),
                      ("counted", "bare", True, None, CELL), ("counted", "bare", None, False, CELL),
                      ("within", "bare", False, "cut", "skip", CELL), ("choice", "bare", [(0, CELL)]),
                      ("choice", "bare", ((True, CELL),)), ("choice", "bare", ([0, CELL],)), (EqualToAll(), CELL)):
            self.wrong(thing, ())
            self.wrong(row(CELL, thing), (1,))
            self.wrong(("choice", "bare", ((3, CELL), (7, times(2, thing)))), (1, 0))

    def test_every_holder(self):
        for holder in (fill, if_left, counted, within, row, lambda one: times(0, one)):
            self.wrong(holder(["need", 1]), (0,))
            self.wrong(at((2, 1), holder(("need", 0))), (2, 1, 0))

    def test_order(self):
        bad = ("need", 10)
        self.wrong(row(CELL, bad, bad), (1,))
        self.wrong(row(row(bad), bad), (0, 0))
        self.wrong(row(CELL, ("times", 7, bad)), (1,))
        self.wrong(("counted", "bare", 10, None, bad), ())
        self.wrong(("choice", "bare", ((0, bad), (0, CELL))), ())
        self.wrong(row(*[bad] * 13), ())

    def test_conditions_behind_the_parts(self):
        unsized = fill(CELL)
        self.wrong(counted(unsized, ahead=0), ())
        self.wrong(row(CELL, counted(if_left(CELL), ahead=3)), (1,))
        self.wrong(counted(row(unsized, ("need", 0)), ahead=0), (0, 1))
        self.wrong(row(counted(unsized, ahead=0), ("need", 0)), (0,))
        self.wrong(counted(counted(unsized, ahead=1), ahead=1), (0,))
        for barred in (within(CELL), ("need", 1), counted(CELL, ahead=0)):
            self.wrong(within(row(CELL, barred), "told"), ())
            self.wrong(row(within(row(CELL, times(0, barred)), "told"), ("need", 0)), (0,))
            self.wrong(within(row(barred, ("need", 0)), "told"), (0, 1))
            self.assertEqual(Reader(within(row(CELL, barred), "cut")).part[3], "cut")
        self.wrong(within(within(within(CELL), "told"), "told"), (0,))
        self.assertTrue(Reader(within(counted(CELL), "told"))([1, 0]))

    def test_too_deep(self):
        self.assertTrue(Reader(nested(CELL, 7))([1]))
        for thing in (CELL, NOTHING, None, ("need", 0)):
            self.wrong(nested(thing, 8), (0,) * 8)
        self.wrong(nested(nested(CELL, 30), 7), (0,) * 8)
        self.wrong(row(CELL, nested(CELL, 8), None), (1,) + (0,) * 7)
        self.wrong(row(None, nested(CELL, 8)), (0,))
        # What is too deep is wrong ahead of a condition that is looked at behind it.
        self.wrong(counted(nested(CELL, 7), ahead=0), (0,) * 8)

    def test_too_many(self):
        twelve = row(*[CELL] * 12)
        self.assertTrue(Reader(row(*[twelve] * 4, row(*[CELL] * 6)))([0] * 54))
        self.wrong(row(*[twelve] * 4, row(*[CELL] * 7)), ())
        self.wrong(row(*[twelve] * 4, row(*[CELL] * 7), None), (5,))
        self.wrong(times(0, row(*[twelve] * 5)), ())
        # 33 parts, counted 5 times and those 6 times: 997 with the two times.
        many = times(6, times(5, row(twelve, twelve, *[CELL] * 6)))
        self.assertTrue(Reader(row(many, CELL, CELL))([0] * 1000))
        self.wrong(row(many, CELL, CELL, CELL), ())
        self.wrong(row(many, CELL, CELL, ("need", 1), ("need", 0)), (4,))
        self.assertTrue(Reader(times(0, row(many, CELL, CELL, CELL)))([]))

    def test_part_and_equality(self):
        part = row(CELL, ("choice", "bare", ((1, CELL), (3, BARE))))
        same = row(CELL, ("choice", "bare", ((1, CELL), (3, BARE))))
        self.assertEqual(Reader(part).part, part)
        self.assertTrue(Reader(part) == Reader(same))
        self.assertFalse(Reader(part) != Reader(same))
        for other in (row(CELL), BARE, row(CELL, ("choice", "bare", ((1, CELL), (2, BARE))))):
            self.assertFalse(Reader(part) == Reader(other))
        for other in (part, None, 1, "row", Reader, Outcome("read", 0, "", (), 0, 0)):
            self.assertFalse(Reader(part) == other)
            self.assertTrue(Reader(part) != other)


class Rows(Readings):
    def test_no_rows(self):
        reader = Reader(NOTHING)
        for cells, index in ((None, None), ((1, 2), None), ("12", None), ([0] * 10001, None), ([-1], 0), ([0, True], 1),
                             ([0, 1.0], 1), ([1, GREAT + 1, -1], 1), ([0] * 9999 + [None], 9999)):
            for tried in (reader, Cursor):
                with self.assertRaises(NoRow) as caught:
                    tried(cells)
                self.assertEqual(caught.exception.index, index)

    def test_row_stays_and_calls_tell_the_same(self):
        reader = Reader(row(counted(CELL), within(fill(CELL), "cut")))
        cells = [2, 5, 6, 3, 1]
        first, second = reader(cells), reader(row=cells)
        self.assertEqual(cells, [2, 5, 6, 3, 1])
        self.assertEqual(first, second)
        self.assertEqual(first.told(), second.told())
        cells.clear()
        self.assertEqual(first.told(), ("read", 5, "", (2, 3), 5, 3))
        self.assertTrue(reader([GREAT] * 3 + [0] * 9997) == reader([GREAT] * 3 + [0] * 9997))

    def test_outcomes(self):
        reader = Reader(row(counted(CELL, most=2), ("cell", 1, None, "bare")))
        outcome = reader([1, 5, 7])
        numbers = outcome.numbers
        self.assertEqual(numbers, [1])
        numbers.append(3)
        self.assertEqual(outcome.numbers, [1])
        self.assertIsNot(outcome.numbers, outcome.numbers)
        self.assertEqual(outcome.told(), ("read", 3, "", (1,), 3, 1))
        self.assertEqual(outcome, reader([1, 6, 8, 4]))
        different = [reader(cells) for cells in ([0, 5], [1, 5], [1, 5, 0], [1], [3], [], [2, 1, 1, 1])]
        for index, one in enumerate(different):
            self.assertTrue(one != outcome)
            for place, other in enumerate(different):
                self.assertEqual(one == other, index == place)
        for other in (None, outcome.told(), "read", reader, 1, EqualToAll):
            self.assertFalse(outcome == other)

    def test_outcomes_differ_in_each_field(self):
        base = ("read", 1, "", (2,), 3, 4)
        self.assertEqual(Outcome(*base), Outcome(*base))
        for index, other in enumerate(("refused", 2, "value", (2, 2), 4, 5)):
            self.assertNotEqual(Outcome(*base), Outcome(*base[:index], other, *base[index + 1:]))


class PlainParts(Readings):
    def test_cell(self):
        self.tells(("cell", 2, 4, "checked"),
                   ([2], ("read", 1, "", (), 1, 0)), ([4, 9], ("read", 1, "", (), 1, 0)),
                   ([1], ("refused", 0, "value", (), 1, 0)), ([5], ("refused", 0, "value", (), 1, 0)),
                   ([], ("refused", 0, "short", (), 0, 0)))
        self.tells(("cell", 2, None, "bare"),
                   ([2], ("read", 1, "", (), 1, 0)), ([GREAT], ("read", 1, "", (), 1, 0)),
                   ([1], ("refused", 0, "value", (), 1, 0)), ([], ("beyond", 0, "", (), 0, 0)))

    def test_row(self):
        self.tells(NOTHING, ([], ("read", 0, "", (), 0, 0)), ([1, 2], ("read", 0, "", (), 0, 0)))
        self.tells(row(("cell", 1, 1, "checked"), ("cell", 2, 2, "bare")),
                   ([1, 2, 3], ("read", 2, "", (), 2, 0)), ([2, 1], ("refused", 0, "value", (), 1, 0)),
                   ([1, 1], ("refused", 1, "value", (), 2, 0)), ([1], ("beyond", 1, "", (), 1, 0)))

    def test_choice(self):
        options = ((0, NOTHING), (3, row(CELL, BARE)), (99, times(2, ZERO)))
        self.tells(("choice", "checked", options),
                   ([0, 8], ("read", 1, "", (), 1, 0)), ([3, 8, 8], ("read", 3, "", (), 3, 0)),
                   ([3, 8], ("beyond", 2, "", (), 2, 0)), ([3], ("refused", 1, "short", (), 1, 0)),
                   ([99, 0, 0], ("read", 3, "", (), 3, 2)), ([99, 0, 1], ("refused", 2, "value", (), 3, 2)),
                   ([1], ("refused", 0, "value", (), 1, 0)), ([GREAT], ("refused", 0, "value", (), 1, 0)),
                   ([], ("refused", 0, "short", (), 0, 0)))
        self.tells(row(CELL, ("choice", "bare", options)),
                   ([7], ("beyond", 1, "", (), 1, 0)), ([7, 2], ("refused", 1, "value", (), 2, 0)),
                   ([7, 0], ("read", 2, "", (), 2, 0)))

    def test_times(self):
        self.tells(times(3, CELL), ([1, 2, 3], ("read", 3, "", (), 3, 3)), ([1], ("refused", 1, "short", (), 1, 2)),
                   ([], ("refused", 0, "short", (), 0, 1)))
        self.tells(times(0, ("cell", 5, 5, "bare")), ([], ("read", 0, "", (), 0, 0)))
        self.tells(times(6, times(6, NOTHING)), ([1], ("read", 0, "", (), 0, 42)))

    def test_need(self):
        self.tells(row(CELL, ("need", 2)), ([0, 1, 2], ("read", 1, "", (), 1, 0)),
                   ([0, 1], ("refused", 1, "short", (), 1, 0)), ([], ("refused", 0, "short", (), 0, 0)))

    def test_if_left(self):
        self.tells(row(CELL, if_left(row(("cell", 1, 1, "checked"), BARE))),
                   ([0], ("read", 1, "", (), 1, 0)), ([0, 1, 2], ("read", 3, "", (), 3, 0)),
                   ([0, 2], ("refused", 1, "value", (), 2, 0)), ([0, 1], ("beyond", 2, "", (), 2, 0)))
        self.tells(within(if_left(CELL)), ([0, 5], ("read", 1, "", (0,), 1, 0)),
                   ([1, 5], ("read", 2, "", (1,), 2, 0)))


class Turns(Readings):
    def test_counted(self):
        self.tells(counted(("cell", 0, 5, "checked")),
                   ([0], ("read", 1, "", (0,), 1, 0)), ([2, 3, 4], ("read", 3, "", (2,), 3, 2)),
                   ([2, 3], ("refused", 2, "short", (2,), 2, 2)), ([3, 3, 9, 1], ("refused", 2, "value", (3,), 3, 2)),
                   ([GREAT, 0, 0], ("refused", 3, "short", (GREAT,), 3, 3)), ([], ("refused", 0, "short", (), 0, 0)))
        self.tells(row(CELL, counted(BARE, most=2, manner="bare")),
                   ([7, 2, 1, 1], ("read", 4, "", (2,), 4, 2)), ([7, 3, 1, 1], ("refused", 1, "most", (), 2, 0)),
                   ([7, GREAT], ("refused", 1, "most", (), 2, 0)), ([7], ("beyond", 1, "", (), 1, 0)),
                   ([7, 2, 1], ("beyond", 3, "", (2,), 3, 2)))

    def test_counted_ahead(self):
        pair = row(CELL, BARE)
        self.tells(counted(pair, ahead=0), ([1, 5, 5], ("read", 3, "", (1,), 3, 1)),
                   ([2, 5, 5, 5], ("refused", 1, "short", (2,), 1, 0)), ([GREAT], ("refused", 1, "short", (GREAT,), 1, 0)),
                   ([0], ("read", 1, "", (0,), 1, 0)))
        self.tells(counted(pair, ahead=2, most=4), ([1, 5, 5, 5, 5], ("read", 3, "", (1,), 3, 1)),
                   ([1, 5, 5, 5], ("refused", 1, "short", (1,), 1, 0)), ([0, 5], ("refused", 1, "short", (0,), 1, 0)),
                   ([5, 5], ("refused", 0, "most", (), 1, 0)))
        self.tells(counted(("need", 1), ahead=1),
                   ([GREAT, 1], ("read", 1, "", (GREAT,), 1, GREAT)), ([GREAT], ("refused", 1, "short", (GREAT,), 1, 0)))

    def test_idle_turns(self):
        self.tells(counted(NOTHING), ([GREAT, 1], ("read", 1, "", (GREAT,), 1, GREAT)),
                   ([0], ("read", 1, "", (0,), 1, 0)), ([1], ("read", 1, "", (1,), 1, 1)))
        self.tells(counted(times(3, times(2, NOTHING))), ([GREAT], ("read", 1, "", (GREAT,), 1, 10 * GREAT)),
                   ([1], ("read", 1, "", (1,), 1, 10)))
        self.tells(counted(if_left(row(CELL, times(2, NOTHING)))),
                   ([7], ("read", 1, "", (7,), 1, 7)), ([7, 1, 2], ("read", 3, "", (7,), 3, 11)),
                   ([2, 1, 2], ("read", 3, "", (2,), 3, 6)), ([3, 1, 2], ("read", 3, "", (3,), 3, 7)))
        self.tells(counted(times(2, if_left(CELL))), ([GREAT, 1, 2, 3], ("read", 4, "", (GREAT,), 4, 3 * GREAT)))
        # A turn that ends the reading counts, and no turn behind it.
        self.tells(counted(row(times(2, NOTHING), ("need", 1))), ([GREAT], ("refused", 1, "short", (GREAT,), 1, 3)),
                   ([GREAT, 1], ("read", 1, "", (GREAT,), 1, 3 * GREAT)))
        self.tells(counted(row(times(2, ("need", 1)), if_left(CELL))),
                   ([GREAT, 1], ("refused", 2, "short", (GREAT,), 2, 5)))

    def test_idle_turns_in_one_another(self):
        self.tells(counted(counted(NOTHING)),
                   ([2, GREAT, 5], ("read", 3, "", (2, GREAT, 5), 3, GREAT + 7)),
                   ([3, GREAT, 5], ("refused", 3, "short", (3, GREAT, 5), 3, GREAT + 8)))
        self.tells(times(2, row(counted(times(2, NOTHING)), if_left(CELL))),
                   ([GREAT, 0, 4], ("read", 3, "", (GREAT, 4), 3, 3 * GREAT + 14)))
        self.tells(counted(if_left(counted(if_left(CELL)))),
                   ([GREAT, 5, 1], ("read", 3, "", (GREAT, 5), 3, GREAT + 5)))
        # Idle within a limit, behind which the row goes on.
        self.tells(row(within(counted(if_left(CELL)), "nested", "exact"), CELL),
                   ([2, GREAT, 6, 7], ("read", 4, "", (2, GREAT), 4, GREAT)),
                   ([2, 0, 6, 7], ("refused", 2, "exact", (2, 0), 2, 0)))
        self.tells(row(CELL, counted(("need", 1)), CELL), ([1, GREAT, 3], ("read", 3, "", (GREAT,), 3, GREAT)),
                   ([1, GREAT], ("refused", 2, "short", (GREAT,), 2, 1)))
        # In a told limit that ends beyond the row.
        self.tells(within(counted(row(times(4, NOTHING))), "told"),
                   ([9, GREAT], ("refused", 2, "past", (9, GREAT), 2, 5 * GREAT)))

    def test_fill(self):
        self.tells(fill(CELL), ([], ("read", 0, "", (), 0, 0)), ([1, 2, 3], ("read", 3, "", (), 3, 3)))
        self.tells(fill(row(CELL, BARE)), ([1, 2], ("read", 2, "", (), 2, 1)), ([1, 2, 3], ("beyond", 3, "", (), 3, 2)))
        self.tells(row(fill(times(2, CELL)), CELL), ([1, 2], ("refused", 2, "short", (), 2, 3)))
        self.tells(within(fill(counted(CELL)), "cut"),
                   ([4, 1, 7, 0, 0, 9], ("read", 5, "", (4, 1, 0, 0), 5, 4)))

    def test_endless(self):
        self.tells(fill(NOTHING), ([], ("read", 0, "", (), 0, 0)), ([1], ("endless", 0, "", (), 0, 1)))
        self.tells(row(CELL, fill(times(2, ("need", 1)))), ([5], ("read", 1, "", (), 1, 0)),
                   ([5, 6], ("endless", 1, "", (), 1, 3)))
        self.tells(fill(("need", 2)), ([1], ("refused", 0, "short", (), 0, 1)), ([1, 2], ("endless", 0, "", (), 0, 1)))
        self.tells(fill(counted(NOTHING)), ([3, 0], ("read", 2, "", (3, 0), 2, 5)))
        self.tells(fill(("pad", 2, "bare")), ([0], ("endless", 0, "", (), 0, 1)))
        self.tells(row(CELL, fill(("pad", 2, "bare"))), ([1], ("read", 1, "", (), 1, 0)),
                   ([1, 0], ("read", 2, "", (), 2, 1)), ([1, 0, 0], ("endless", 2, "", (), 2, 2)))
        self.tells(within(fill(if_left(NOTHING)), "cut"), ([0, 5], ("read", 1, "", (0,), 1, 0)),
                   ([9, 5], ("endless", 1, "", (9,), 1, 1)))
        self.tells(fill(fill(NOTHING)), ([1], ("endless", 0, "", (), 0, 2)))


class Limits(Readings):
    def test_nested(self):
        self.tells(row(within(CELL), ("cell", 4, 4, "checked")),
                   ([1, 9, 4], ("read", 3, "", (1,), 3, 0)), ([3, 9, 8, 8, 4], ("read", 5, "", (3,), 3, 0)),
                   ([0, 9], ("refused", 1, "short", (0,), 1, 0)), ([3, 9], ("refused", 1, "nested", (3,), 1, 0)),
                   ([GREAT, 9], ("refused", 1, "nested", (GREAT,), 1, 0)))
        self.tells(within(within(fill(CELL)), rest="exact"),
                   ([2, 1, 7], ("read", 3, "", (2, 1), 3, 1)), ([2, 2, 7, 8], ("refused", 2, "nested", (2, 2), 2, 0)),
                   ([2, 0, 7], ("refused", 2, "exact", (2, 0), 2, 0)))

    def test_most(self):
        self.tells(within(BARE, most=2, manner="bare"),
                   ([], ("beyond", 0, "", (), 0, 0)), ([2, 1, 1], ("read", 3, "", (2,), 2, 0)),
                   ([3, 1, 1, 1], ("refused", 0, "most", (), 1, 0)), ([0, 1], ("beyond", 1, "", (0,), 1, 0)))

    def test_exact(self):
        self.tells(within(row(CELL, if_left(CELL)), rest="exact"),
                   ([1, 5], ("read", 2, "", (1,), 2, 0)), ([2, 5, 6], ("read", 3, "", (2,), 3, 0)),
                   ([3, 5, 6, 7], ("refused", 3, "exact", (3,), 3, 0)))

    def test_cut(self):
        self.tells(row(within(fill(CELL), "cut", "exact"), CELL),
                   ([2, 5, 6, 7], ("read", 4, "", (2,), 4, 2)), ([GREAT, 5], ("refused", 2, "short", (GREAT,), 2, 1)))
        self.tells(row(within(row(CELL, BARE), "cut"), if_left(CELL)),
                   ([9, 5, 6], ("read", 3, "", (9,), 3, 0)), ([9, 5], ("beyond", 2, "", (9,), 2, 0)))

    def test_told(self):
        told = within(fill(CELL), "told")
        self.tells(row(told, CELL), ([1, 5, 6], ("read", 3, "", (1,), 3, 1)), ([3, 5], ("beyond", 2, "", (3,), 2, 2)),
                   ([1, 5], ("refused", 2, "short", (1,), 2, 1)))
        self.tells(within(CELL, "told"), ([9, 5], ("refused", 2, "past", (9,), 2, 0)), ([9], ("beyond", 1, "", (9,), 1, 0)),
                   ([0, 5], ("refused", 1, "short", (0,), 1, 0)))
        self.tells(within(CELL, "told", "exact"), ([9, 5], ("refused", 2, "exact", (9,), 2, 0)),
                   ([1, 5], ("read", 2, "", (1,), 2, 0)))
        # The end of a limit around it, not that of the row, is what it is told beyond.
        self.tells(within(row(told, CELL)), ([3, 1, 7, 8], ("read", 4, "", (3, 1), 4, 1)),
                   ([2, 2, 7, 8], ("beyond", 3, "", (2, 2), 3, 2)))
        self.tells(within(within(CELL, "told"), "cut"), ([2, 3, 7, 8], ("refused", 3, "past", (2, 3), 3, 0)))
        self.tells(within(if_left(BARE), "told"), ([1], ("beyond", 1, "", (1,), 1, 0)))
        self.tells(within(row(CELL, ("pad", 3, "checked")), "told"),
                   ([4, 7, 0], ("beyond", 3, "", (4,), 3, 0)), ([4, 7, 0, 0, 8], ("read", 5, "", (4,), 4, 0)))

    def test_pad(self):
        pad = ("pad", 3, "checked")
        self.tells(pad, ([], ("read", 0, "", (), 0, 0)), ([5], ("read", 0, "", (), 0, 0)))
        self.tells(row(CELL, pad), ([5, 0, 0, 5], ("read", 3, "", (), 3, 0)), ([5, 0], ("refused", 2, "short", (), 2, 0)),
                   ([5, 0, 1], ("refused", 2, "value", (), 3, 0)), ([5, 1, 0], ("refused", 1, "value", (), 2, 0)))
        self.tells(row(times(4, CELL), ("pad", 2, "bare"), ("pad", 6, "bare")),
                   ([5, 5, 5, 5, 0, 0], ("read", 6, "", (), 6, 4)), ([5, 5, 5, 5, 0], ("beyond", 5, "", (), 5, 4)))

    def test_pad_counts_from_the_innermost_limit(self):
        pad = ("pad", 2, "checked")
        self.tells(row(CELL, within(row(CELL, pad)), pad),
                   ([7, 2, 7, 0], ("read", 4, "", (2,), 4, 0)), ([7, 3, 7, 0, 9, 0], ("read", 6, "", (3,), 5, 0)),
                   ([7, 2, 7, 1], ("refused", 3, "value", (2,), 4, 0)), ([7, 1, 7, 0], ("refused", 3, "short", (1,), 3, 0)))

    def test_choice_and_counts_within(self):
        part = within(("choice", "checked", ((1, counted(BARE)), (2, times(2, CELL)))), "cut", "exact")
        self.tells(part, ([3, 1, 1, 7], ("read", 4, "", (3, 1), 4, 1)), ([3, 1, 2, 7], ("beyond", 4, "", (3, 2), 4, 2)),
                   ([3, 2, 7, 7], ("read", 4, "", (3,), 4, 2)), ([4, 2, 7, 7, 7], ("refused", 4, "exact", (4,), 4, 2)),
                   ([4, 3, 7], ("refused", 1, "value", (4,), 2, 0)))

    def test_the_example(self):
        self.tells(within(fill(row(("cell", 0, 9, "checked"), BARE)), rest="exact"),
                   ([2, 5, 7, 8], ("read", 3, "", (2,), 3, 1)), ([1, 5, 7], ("beyond", 2, "", (1,), 2, 1)),
                   ([3, 5, 7], ("refused", 1, "nested", (3,), 1, 0)))


class Drawn(unittest.TestCase):
    def test_every_reading_ends_within_the_row(self):
        for reader in drawn_readers(5, 60):
            for cells in all_rows(3, range(4)):
                outcome = reader(cells)
                self.assertLessEqual(outcome.looks, 3)
                self.assertLessEqual(outcome.at, 3)
                self.assertEqual(outcome.why != "", outcome.kind == "refused")
                self.assertEqual(outcome, reader(cells))


if __name__ == "__main__":
    unittest.main()
