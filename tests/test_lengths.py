import unittest

from drawn import KINDS, all_rows, drawn_readers, large_readers
from made import BARE, CELL, GREAT, NOTHING, ONE, choice, counted, fill, if_left, pad, row, times, within
from strange import strange_objects
from withinlimits.errors import LimitError, NoWord, TooLarge
from withinlimits.lengths import Verdict, example, lengths_of, verdict_of
from withinlimits.reading import Reader
from withinlimits.sets import LengthSet

FULL, NONE, ONLY, FROM = LengthSet.full(), LengthSet.none(), LengthSet.only, LengthSet.from_least


def repeating(start, period, *rests):
    return LengthSet((), start, period, rests)


# Parts and their sets of lengths in the order of KINDS.
KNOWN = (
    (NOTHING, FULL, NONE, NONE, NONE),
    (CELL, FROM(1), ONLY(0), NONE, NONE),
    (BARE, FROM(1), NONE, ONLY(0), NONE),
    (ONE, FROM(1), FULL, NONE, NONE),
    (("cell", 0, 5, "bare"), FROM(1), FROM(1), ONLY(0), NONE),
    (("cell", 5, None, "bare"), FROM(1), FROM(1), ONLY(0), NONE),
    (row(CELL, BARE, ("need", 2)), FROM(4), ONLY(0, 2, 3), ONLY(1), NONE),
    (choice(NOTHING, row(BARE, BARE)), FROM(1), FULL, ONLY(1, 2), NONE),
    (choice(NOTHING, manner="bare"), FROM(1), FROM(1), ONLY(0), NONE),
    (times(3, BARE), FROM(3), NONE, ONLY(0, 1, 2), NONE),
    (times(0, BARE), FULL, NONE, NONE, NONE),
    (("need", 3), FROM(3), ONLY(0, 1, 2), NONE, NONE),
    (counted(BARE), FROM(1), ONLY(0), FROM(1), NONE),
    (counted(BARE, most=2), FROM(1), FULL, ONLY(1, 2), NONE),
    (counted(BARE, most=2, manner="bare"), FROM(1), FROM(1), ONLY(0, 1, 2), NONE),
    (counted(row(BARE, BARE), ahead=1), FROM(2), FULL, NONE, NONE),
    (counted(BARE, most=3, ahead=2), FROM(3), FULL, NONE, NONE),
    (row(counted(BARE, ahead=2), BARE, BARE, BARE), FROM(4), FULL, FROM(3), NONE),
    (counted(CELL, most=0, ahead=2), FROM(3), FULL, NONE, NONE),
    # Nothing changes with the length for long, and then it does.
    (("need", 9), FROM(9), FULL - FROM(9), NONE, NONE),
    (counted(times(6, BARE), most=0, ahead=9), FROM(10), FULL, NONE, NONE),
    (counted(NOTHING, ahead=9), FROM(10), FULL - FROM(10), NONE, NONE),
    (row(counted(times(6, ONE), ahead=9), ("need", 1)), FROM(10), FULL, NONE, NONE),
    (row(counted(row(times(6, BARE), BARE), ahead=9), fill(NOTHING)), NONE, FULL, NONE, FROM(10)),
    (within(times(6, times(3, BARE))), FROM(19), FULL, FROM(1), NONE),
    (within(row(times(6, times(3, CELL)), BARE)), FROM(20), FULL, FROM(19), NONE),
    (within(row(times(6, times(3, CELL)), BARE), "told"), FROM(20), FULL, FROM(1), NONE),
    (within(fill(CELL), "told", most=20), FROM(1), FULL, FROM(1) - FROM(21), NONE),
    (within(NOTHING, "nested", "skip", most=20), FROM(1), FULL, NONE, NONE),
    (fill(within(times(6, times(3, CELL)), rest="exact", most=19)), repeating(0, 19, 0), FROM(1), NONE, NONE),
    (row(counted(("need", 1), ahead=2), times(3, BARE)), FROM(4), ONLY(0, 1, 2), ONLY(3), NONE),
    (fill(CELL), FULL, NONE, NONE, NONE),
    (fill(row(CELL, BARE)), repeating(0, 2, 0), NONE, repeating(0, 2, 1), NONE),
    (fill(choice(CELL, times(2, CELL))), ONLY(0) | FROM(2), FROM(1), NONE, NONE),
    (fill(choice(times(3, BARE), times(4, BARE))), ONLY(0, 4, 5) | (FROM(8) - ONLY(11)), FROM(1), FROM(1), NONE),
    (fill(NOTHING), ONLY(0), NONE, NONE, FROM(1)),
    (fill(("need", 2)), ONLY(0), ONLY(1), NONE, FROM(2)),
    (fill(choice(NOTHING, fill(NOTHING))), FULL, FROM(1), NONE, FROM(2)),
    (row(CELL, fill(pad(2))), ONLY(1, 2), FROM(0) - ONLY(1), NONE, FROM(3)),
    (row(CELL, if_left(row(BARE, BARE)), BARE), FROM(4), ONLY(0), ONLY(1, 2, 3), NONE),
    (row(CELL, pad(3)), FROM(3), FULL, NONE, NONE),
    (row(CELL, pad(3, "bare")), FROM(3), ONLY(0) | FROM(2), ONLY(1, 2), NONE),
    (fill(row(BARE, pad(2, "bare"), BARE)), ONLY(0) | repeating(3, 2, 1), FROM(2), ONLY(1) | repeating(2, 2, 0), NONE),
    (within(BARE), FROM(2), FULL, FROM(1), NONE),
    (within(CELL, most=0), NONE, FULL, NONE, NONE),
    (within(fill(times(3, BARE)), rest="exact"), FROM(1), FULL, FROM(2), NONE),
    (within(fill(times(3, BARE)), "cut", "exact", most=2), FROM(1), FULL, FROM(2), NONE),
    (fill(within(fill(times(3, BARE)), "cut", "exact")), FULL, NONE, FROM(2), NONE),
    (within(NOTHING, "nested", "exact"), FROM(1), FULL, NONE, NONE),
    (within(NOTHING, "nested", "exact", most=0), FROM(1), FULL, NONE, NONE),
    (within(NOTHING, "cut", "exact"), FROM(1), ONLY(0) | FROM(2), NONE, NONE),
    (within(CELL, "told"), FROM(2), FULL, FROM(1) - FROM(2), NONE),
    (within(fill(CELL), "told"), FROM(1), ONLY(0), FROM(1), NONE),
    (within(fill(CELL), "told", most=2), FROM(1), FULL, ONLY(1, 2), NONE),
    (within(fill(CELL), "told", most=0), FROM(1), FULL, NONE, NONE),
    (within(NOTHING, "told"), FROM(1), FULL, NONE, NONE),
    (within(fill(NOTHING), "told"), FROM(1), ONLY(0), NONE, FROM(1)),
    # In a gap nothing is at an end, so a fill in a fill looks on.
    (within(fill(fill(CELL)), "told"), FROM(1), ONLY(0), FROM(1), NONE),
    (within(fill(if_left(CELL)), "told"), FROM(1), ONLY(0), FROM(1), NONE),
    (within(within(BARE, "cut"), "nested"), FROM(3), FULL, FROM(2), NONE),
)


class Known(unittest.TestCase):
    def test_known_sets(self):
        for part, *wanted in KNOWN:
            for kind, lengths in zip(KINDS, wanted):
                self.assertEqual(lengths_of(Reader(part), kind), lengths, (part, kind))

    def test_the_examples(self):
        reader = Reader(fill(row(CELL, BARE)))
        sets = [lengths_of(reader=reader, kind=kind) for kind in KINDS]
        self.assertEqual([(one.start, one.period, one.rests) for one in sets],
                         [(0, 2, [0]), (0, 1, []), (0, 2, [1]), (0, 1, [])])
        verdict = verdict_of(Reader(within(fill(row(("cell", 0, 9, "checked"), BARE)), rest="exact")))
        self.assertEqual([bool(verdict), len(verdict.row), verdict.at, verdict.all_lengths.start,
                          verdict.all_lengths.rests], [False, 2, 2, 2, [0]])

    def test_lengths_in_limits_sum_up(self):
        """Lengths that are multiples of 5 and of 7 within an exact limit: all sums from 24 on, and few below."""
        part = within(row(within(fill(times(5, CELL)), rest="exact"), within(fill(row(*[CELL] * 7)), rest="exact")),
                      rest="exact")
        sums = [5 * one + 7 * two for one in range(20) for two in range(20)]
        # The least length to be read is 3; what is around is exact, but its own length can be any.
        lengths = lengths_of(Reader(row(part, fill(NOTHING))), "read")
        self.assertEqual(list(lengths.below(60)), [3 + number for number in range(57) if number in sums])
        self.assertEqual((lengths.start, lengths.period), (27, 1))

    def test_other_periods_beside_one_another(self):
        """The pad counts from the beginning of the row, the fills from behind the choice."""
        part = choice(fill(row(*[BARE] * 5)), fill(times(6, CELL)), fill(row(CELL, pad(4, "bare"))))
        lengths = lengths_of(Reader(part), "read")
        wanted = [number for number in range(1, 300)
                  if (number - 1) % 5 == 0 or (number - 1) % 6 == 0 or number % 4 == 0]
        self.assertEqual(list(lengths.below(300)), wanted)
        self.assertEqual((lengths.start, lengths.period), (1, 60))


class Drawn(unittest.TestCase):
    def lengths_are_those_of_rows(self, readers, longest):
        rows = {length: all_rows(length, range(longest + 2)) for length in range(longest + 1)}
        kinds = {}
        for reader in readers:
            for kind in KINDS:
                lengths = lengths_of(reader, kind)
                self.assertIsInstance(lengths, LengthSet)
                found = [length for length in rows if kind in {reader(cells).kind for cells in rows[length]}]
                self.assertEqual(list(lengths.below(longest + 1)), found, (reader.part, kind))
                kinds[kind] = kinds.get(kind, 0) + bool(lengths)
        self.assertGreater(min(kinds[kind] for kind in KINDS), 0)

    def test_all_rows_of_few_cells(self):
        self.lengths_are_those_of_rows(drawn_readers(11, 150), 4)
        self.lengths_are_those_of_rows(drawn_readers(12, 60, 7, 15, 45), 3)

    def examples_end_so(self, reader, lengths):
        for kind in KINDS:
            members = lengths_of(reader, kind)
            for length in lengths:
                cells = example(reader, kind, length)
                self.assertEqual(cells is not None, length in members, (reader.part, kind, length))
                if cells is not None:
                    self.assertEqual(len(cells), length)
                    self.assertEqual(reader(cells).kind, kind, (reader.part, cells))

    def test_examples(self):
        for reader in drawn_readers(13, 200):
            self.examples_end_so(reader, range(12))
        for reader in drawn_readers(14, 60, 7, 15, 45):
            self.examples_end_so(reader, (*range(0, 60, 7), 997, 1000))

    def test_examples_with_turns_in_turns(self):
        for part in (counted(CELL, ahead=0), counted(NOTHING, ahead=2), counted(times(3, BARE), ahead=1),
                     counted(row(counted(CELL, most=1), BARE), most=3), counted(row(counted(CELL, most=1), BARE)),
                     fill(row(counted(row(counted(ONE), ONE), ahead=None), ("cell", 3, 3, "bare"))),
                     within(counted(row(counted(times(2, ONE), most=2), times(3, ONE)), most=2), rest="exact")):
            self.examples_end_so(Reader(part), range(25))

    def test_examples_behind_limits(self):
        for limit in ("nested", "cut", "told"):
            self.examples_end_so(Reader(row(within(CELL, limit), fill(times(5, ONE)))), range(25))
            self.examples_end_so(Reader(fill(row(within(ONE, limit), times(2, ONE), within(ONE, limit, most=3)))), range(25))

    def test_equal_calls(self):
        for reader in drawn_readers(15, 40):
            other = Reader(reader.part)
            for kind in KINDS:
                first = example(reader, kind, 5)
                self.assertEqual(lengths_of(reader, kind), lengths_of(other, kind))
                self.assertEqual(example(reader, kind, 5), first)
                self.assertEqual(example(other, kind, 5), first)
                if first is not None:
                    first.append(7)
                    self.assertEqual(len(example(reader, kind, 5)), 5)
            self.assertEqual(reader, other)

    def test_verdicts(self):
        seen = []
        for reader in drawn_readers(16, 150) + drawn_readers(17, 50, 7, 15, 45):
            verdict = Verdict(reader)
            self.assertEqual(verdict.all_lengths, lengths_of(reader, "beyond"))
            self.assertIs(bool(verdict), not verdict.all_lengths)
            seen.append(bool(verdict))
            if verdict:
                self.assertIsNone(verdict.row)
                self.assertIsNone(verdict.at)
                continue
            outcome = reader(verdict.row)
            self.assertEqual((outcome.kind, outcome.at), ("beyond", verdict.at))
            self.assertEqual(len(verdict.row), verdict.all_lengths.least())
            if len(verdict.row) <= 4:
                for length in range(len(verdict.row)):
                    for cells in all_rows(length, range(6)):
                        self.assertNotEqual(reader(cells).kind, "beyond", reader.part)
        self.assertIn(True, seen)
        self.assertIn(False, seen)


class Words(unittest.TestCase):
    def no_word(self, value, call, *arguments):
        with self.assertRaises(NoWord) as caught:
            call(*arguments)
        self.assertIs(caught.exception.value, value)

    def test_no_words(self):
        reader = Reader(CELL)
        for thing in strange_objects():
            for call in (Verdict, verdict_of):
                self.no_word(thing, call, thing)
            self.no_word(thing, lengths_of, thing, None)
            self.no_word(thing, lengths_of, reader, thing)
            self.no_word(thing, example, thing, None, None)
            self.no_word(thing, example, reader, thing, None)
            self.no_word(thing, example, reader, "read", thing)
        for kind in ("Read", "idle", "never", "read "):
            self.no_word(kind, lengths_of, reader, kind)
        for length in (-1, 1001, GREAT):
            self.no_word(length, example, reader, "read", length)
        self.no_word(CELL, lengths_of, CELL, "read")
        self.assertEqual(len(example(reader=reader, kind="read", length=1000)), 1000)
        self.assertEqual(example(reader, "refused", 0), [])

    def test_a_verdict_tells_new_lists(self):
        verdict = verdict_of(reader=Reader(row(CELL, BARE)))
        cells = verdict.row
        self.assertEqual((len(cells), verdict.at), (1, 1))
        cells.append(3)
        self.assertEqual(len(verdict.row), 1)
        self.assertIs(bool(Verdict(Reader(CELL))), True)

    def test_cells_stay_within_what_a_row_can_have(self):
        parts = (("cell", 0, 10 ** 6, "checked"), ("cell", 10 ** 6, 10 ** 6, "checked"), within(NOTHING),
                 counted(CELL, ahead=9), choice(*[NOTHING] * 6), within(CELL, most=20), pad(2))
        for part in parts:
            for kind in KINDS:
                for length in (0, 1, 5, 1000):
                    cells = example(Reader(row(CELL, part)), kind, length)
                    if cells is not None:
                        self.assertLessEqual(max(cells, default=0), GREAT)
                        self.assertEqual(Reader(row(CELL, part))(cells).kind, kind)


def filled(*sizes):
    """A fill whose turn reads the product of these sizes, and one more cell."""
    part = BARE
    for size in sizes:
        part = times(size, part)
    return fill(choice(part))


class Large(unittest.TestCase):
    """Readers as large as those for which nothing is too large."""

    def test_periods(self):
        lengths = lengths_of(Reader(choice(filled(4, 4), filled(6, 2), fill(times(4, times(3, BARE))))), "read")
        self.assertEqual((lengths.start, lengths.period, len(lengths.rests)), (0, 2652, 540))
        for number in (17, 13, 12, 0):
            self.assertIn(number + 1, lengths)
        self.assertNotIn(2, lengths)

    def test_what_is_found_late(self):
        """The points repeat with a period, or from a length on, beyond those of sets, but the sets do not."""
        part = choice(fill(times(5, BARE)), fill(choice(times(6, BARE))), filled(5, 2), fill(times(6, choice(BARE))))
        lengths = lengths_of(Reader(part), "read")
        self.assertEqual((lengths.start, lengths.period), (0, 4620))
        lengths = lengths_of(Reader(row(filled(6, 2), fill(times(6, times(4, BARE))), filled(4, 4))), "read")
        self.assertEqual((lengths.start, lengths.period, lengths.rests), (0, 13, [0]))

    def test_starts(self):
        part = fill(choice(times(4, times(5, CELL)), times(3, times(6, CELL))))
        lengths = lengths_of(Reader(part), "read")
        self.assertEqual((lengths.start, lengths.period, lengths.early[:4]), (360, 1, [0, 19, 21, 38]))
        self.assertNotIn(359, lengths)

    def test_limits_in_one_another(self):
        inner = within(fill(times(4, times(5, BARE))), rest="exact")
        for part in (within(row(inner, fill(times(3, times(6, BARE)))), rest="exact"),
                     fill(within(row(inner, times(3, times(5, CELL))), "cut", "exact")),
                     row(inner, counted(within(fill(times(3, BARE)), "told", "exact", most=9)), pad(3), pad(2)),
                     within(counted(row(fill(times(5, choice(BARE))), pad(6))), "cut", "exact")):
            reader = Reader(part)
            for kind in KINDS:
                lengths = lengths_of(reader, kind)
                for length in (0, 1, 5, 40, 41, 359, 1000):
                    cells = example(reader, kind, length)
                    self.assertEqual(cells is not None, length in lengths)
                    if cells is not None:
                        self.assertEqual((reader(cells).kind, len(cells)), (kind, length))

    def test_drawn(self):
        for reader in large_readers(18, 60):
            self.assertEqual(bool(Verdict(reader)), not lengths_of(reader, "beyond"))
            for kind in KINDS:
                lengths = lengths_of(reader, kind)
                for length in (0, 7, 19, 20, 53, 54, 55, 1000):
                    cells = example(reader, kind, length)
                    self.assertEqual(cells is not None, length in lengths)
                    if cells is not None:
                        self.assertEqual((reader(cells).kind, len(cells)), (kind, length), reader.part)

    def test_too_large(self):
        part = CELL
        for time in range(6):
            part = counted(part, most=9)
        for call in (lambda: lengths_of(Reader(part), "read"), lambda: example(Reader(part), "read", 3),
                     lambda: Verdict(Reader(part))):
            with self.assertRaises(TooLarge) as caught:
                call()
            self.assertIsInstance(caught.exception, LimitError)
        sizes = [fill(row(*[BARE] * 11)), fill(row(*[BARE] * 7)), fill(times(5, times(5, BARE))),
                 fill(times(3, times(3, BARE))), filled(4, 4), filled(6, 2)]
        with self.assertRaises(TooLarge):
            lengths_of(Reader(choice(*sizes)), "read")


if __name__ == "__main__":
    unittest.main()
