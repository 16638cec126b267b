import time
import unittest

from drawn import drawn_readers, large_readers, well_checked_readers
from lazy import Chooser, readings
from made import BARE, CELL, GREAT, NOTHING, ONE, choice, counted, fill, if_left, pad, row, times, within
from strange import strange_objects
from walked import least_entries, sure_bits
from withinlimits.checker import accepts
from withinlimits.errors import NoWord, TooLarge
from withinlimits.lengths import verdict_of
from withinlimits.papers import lefts_at, paper_of, surely_left
from withinlimits.parts import part_at, subparts
from withinlimits.reading import Reader
from withinlimits.sets import LengthSet

FULL, NONE, ONLY, FROM = LengthSet.full(), LengthSet.none(), LengthSet.only, LengthSet.from_least
MULTIPLES = LengthSet((), 0, 3, (0,))


def up_to(number):
    return FULL - FROM(number + 1)


def need(many):
    return ("need", many)


# Parts, paths in them, and what can be left there.
KNOWN = (
    (CELL, (), FULL),
    (row(CELL, CELL, NOTHING), (1,), FULL),
    (row(need(3), CELL, CELL, NOTHING), (0,), FULL),
    (row(need(3), CELL, CELL, NOTHING), (1,), FROM(3)),
    (row(need(3), CELL, CELL, NOTHING), (3,), FROM(1)),
    (row(CELL, need(2), need(1), NOTHING), (3,), FROM(2)),
    # A bare look goes on only where it was not beyond.
    (row(BARE, BARE, NOTHING), (2,), FULL),
    (row(need(2), choice(CELL, NOTHING), NOTHING), (1, 0), FROM(1)),
    (row(need(2), choice(CELL, NOTHING), NOTHING), (2,), FULL),
    (row(need(2), choice(need(5), NOTHING), NOTHING), (2,), FROM(1)),
    (row(need(2), choice(need(5), need(3)), NOTHING), (2,), FROM(3)),
    (times(0, CELL), (0,), NONE),
    (row(need(4), times(3, CELL), NOTHING), (1, 0), FROM(2)),
    (row(need(4), times(3, CELL), NOTHING), (2,), FROM(1)),
    (counted(NOTHING, most=0), (0,), NONE),
    (row(need(3), counted(CELL), NOTHING), (1, 0), FULL),
    (row(need(9), counted(CELL, most=2), NOTHING), (1, 0), FROM(7)),
    (row(need(9), counted(CELL, most=2), NOTHING), (2,), FROM(6)),
    (counted(CELL, ahead=2), (0,), FROM(3)),
    (counted(row(CELL, CELL), ahead=0), (0,), FROM(2)),
    (counted(row(CELL, CELL), ahead=0), (0, 1), FROM(1)),
    (counted(row(CELL, CELL), most=3, ahead=4), (0,), FROM(6)),
    (row(counted(row(CELL, CELL), ahead=3), NOTHING), (1,), FROM(3)),
    (row(counted(NOTHING, most=0, ahead=3), NOTHING), (1,), FROM(3)),
    (row(need(9), counted(row(CELL, CELL), most=2, ahead=5), NOTHING), (1, 0), FROM(7)),
    (row(need(9), counted(row(CELL, CELL), most=2, ahead=5), NOTHING), (2,), FROM(5)),
    (fill(CELL), (0,), FROM(1)),
    (row(fill(CELL), NOTHING), (1,), ONLY(0)),
    (fill(row(CELL, NOTHING)), (0, 1), FULL),
    (row(CELL, CELL, fill(NOTHING), NOTHING), (3,), ONLY(0)),
    (row(need(1), fill(NOTHING), NOTHING), (2,), NONE),
    (row(fill(CELL), CELL, NOTHING), (2,), NONE),
    (if_left(NOTHING), (0,), FROM(1)),
    (row(need(2), if_left(CELL), NOTHING), (2,), FROM(1)),
    (row(CELL, if_left(row(CELL, CELL)), NOTHING), (2,), FULL),
    (row(fill(CELL), if_left(NOTHING)), (1, 0), NONE),
    (row(need(5), pad(3), NOTHING), (2,), FROM(5)),
    (row(need(5), CELL, pad(3), NOTHING), (3,), FROM(2)),
    (row(need(5), CELL, pad(6), NOTHING), (3,), FULL),
    (row(need(9), CELL, pad(2), pad(3), NOTHING), (4,), FROM(6)),
    (within(CELL), (), FULL),
    (within(CELL), (0,), FULL),
    (row(need(4), within(NOTHING)), (1, 0), FULL),
    (within(CELL, most=5), (0,), up_to(5)),
    (within(row(CELL, NOTHING), most=5), (0, 1), up_to(4)),
    (within(row(need(2), NOTHING), "cut", most=5), (0, 1), up_to(5) - up_to(1)),
    (within(CELL, most=0), (0,), ONLY(0)),
    (row(fill(CELL), within(NOTHING)), (1, 0), NONE),
    (within(within(NOTHING), most=3), (0, 0), up_to(2)),
    (within(within(NOTHING, most=9), "cut", most=3), (0, 0), up_to(2)),
    (within(fill(within(within(NOTHING))), "cut", most=9), (0, 0, 0, 0), up_to(7)),
    (row(need(5), within(CELL), NOTHING), (2,), FULL),
    (row(need(5), within(CELL, most=2), NOTHING), (2,), FROM(2)),
    (row(need(5), within(CELL, rest="exact"), NOTHING), (2,), FROM(3)),
    (row(need(5), within(row(CELL, CELL), most=1), NOTHING), (2,), NONE),
    (row(need(5), within(fill(times(3, CELL)), "cut", "exact", most=4), NOTHING), (2,), FROM(1)),
    (row(fill(CELL), CELL, within(CELL, "told"), NOTHING), (3,), NONE),
    (row(need(3), within(CELL, "told", "exact"), NOTHING), (2,), FROM(1)),
    # With two cells that are read from the beginning of the limit, and only there.
    (within(row(fill(row(CELL, pad(3))), NOTHING), rest="exact"), (0, 1), ONLY(0)),
    (within(row(CELL, pad(3), NOTHING), most=7), (0, 2), up_to(4)),
    (row(CELL, within(row(CELL, pad(4), NOTHING), most=7)), (1, 0, 2), up_to(3)),
    (within(row(within(fill(times(3, CELL)), rest="exact"), NOTHING), most=8), (0, 1), up_to(7)),
    (row(need(2), counted(times(3, CELL), ahead=0), CELL, NOTHING), (3,), FULL),
)


class LeftsAt(unittest.TestCase):
    def test_known(self):
        for part, path, lefts in KNOWN:
            reader = Reader(part)
            self.assertEqual(lefts_at(reader, path), lefts, (part, path))
            self.assertEqual(surely_left(reader, path), lefts.least())
        self.assertEqual(lefts_at(path=(), reader=Reader(CELL)), FULL)
        self.assertEqual(surely_left(path=(1,), reader=Reader(row(need(2), CELL))), 2)

    def test_periods(self):
        part = within(row(within(fill(times(3, CELL)), "cut", "exact"), CELL), rest="exact")
        reader = Reader(row(part, NOTHING))
        self.assertEqual(lefts_at(reader, (0, 0, 1)), FULL)
        # Behind nine cells or none a limit of ten has one left or ten.
        inner = within(row(counted(times(3, CELL), most=3), NOTHING), most=10)
        self.assertEqual(lefts_at(Reader(inner), (0, 1)), up_to(9))
        self.assertEqual(lefts_at(Reader(row(fill(times(3, CELL)), NOTHING)), (0, 0)), FROM(1))

    def test_readings_of_short_rows(self):
        """What was left where a part began, in all readings of short rows."""
        unseen = 0
        for reader in (drawn_readers(111, 150, 5, 9, 20) + well_checked_readers(112, 100)):
            part = reader.part
            chooser = Chooser(part)
            paths = [path for path, one in subparts(part) if not self.is_in_told(part, path)]
            known = {path: lefts_at(reader, path) for path in paths}
            for length in range(10):
                if readings([chooser], length, 300) is None:
                    break
            for path, left in chooser.begun:
                if path in known:
                    self.assertIn(left, known[path], (part, path))
            if length == 9:
                for path in paths:
                    small = {left for at, left in chooser.begun if at == path and left < 2}
                    unseen += len(set(known[path].below(2)) - small)
        # A few are left only behind longer rows.
        self.assertLess(unseen, 4)

    def is_in_told(self, part, path):
        around = [part_at(part, path[:deep]) for deep in range(len(path))]
        return any(one[0] == "within" and one[3] == "told" for one in around)

    def refuses(self, value, reader, path):
        for call in (lefts_at, surely_left):
            with self.assertRaises(NoWord) as caught:
                call(reader, path)
            self.assertIs(caught.exception.value, value)

    def test_wrong_arguments(self):
        part = row(CELL, within(row(CELL, fill(CELL)), "told"), within(CELL))
        reader = Reader(part)
        for path in ((3,), (-1,), (0, 0), (1, 0), (1, 0, 0), (1, 0, 1), (1, 0, 1, 0), (1, 1), (False,), (True,), (0.0,),
                     ("0",), [0], [], None, "0", 0, ((0,),), (2, False), (2, 0, 0), (GREAT,)):
            self.refuses(path, reader, path)
        for thing in strange_objects():
            self.refuses(thing, thing, ())
            self.refuses(thing, thing, (9,))
            if not isinstance(thing, tuple):
                self.refuses(thing, Reader(NOTHING), thing)
        self.refuses(part, part, ())
        self.assertEqual(lefts_at(reader, (1,)), FULL)
        self.assertEqual(lefts_at(reader, (2, 0)), FULL)

    def test_as_large_as_may_be(self):
        for reader in large_readers(113, 40):
            for path, one in subparts(reader.part):
                if not self.is_in_told(reader.part, path):
                    self.assertEqual(lefts_at(reader, path).least(), surely_left(reader, path))


# Parts of readers that never look beyond, and the entries of their papers.
PAPERS = (
    (NOTHING, ()),
    (CELL, ()),
    (row(need(2), BARE, BARE), ()),
    (times(0, row(BARE, fill(CELL))), ()),
    (times(2, fill(CELL)), ((FULL,), (ONLY(0),))),
    (counted(fill(BARE), most=0), ()),
    (counted(BARE, most=3, ahead=0), ()),
    (counted(CELL), ((FULL,),)),
    (counted(row(CELL, CELL), ahead=0), ((FULL,),)),
    (row(need(4), counted(need(2))), ((FROM(3),),)),
    (row(need(4), counted(CELL)), ((FULL,),)),
    (row(fill(CELL), counted(BARE)), ((FULL,), (NONE,))),
    (row(fill(BARE), fill(CELL)), ((FULL,), (ONLY(0),))),
    (fill(fill(CELL)), ((FULL,), (FULL,))),
    (row(fill(NOTHING), CELL, counted(CELL)), ((FULL,), (NONE,))),
    (fill(row(CELL, pad(2))), ((FULL, NONE),)),
    (fill(row(CELL, pad(2), CELL)), ((FULL, FULL),)),
    (fill(row(CELL, pad(3), pad(2))), ((FULL, NONE, NONE, NONE, FULL, NONE),)),
    (within(NOTHING), (FULL,)),
    (within(NOTHING, rest="exact"), (ONLY(0),)),
    (within(NOTHING, most=4), (up_to(4),)),
    (within(CELL), (FROM(1),)),
    (within(CELL, "cut", "exact"), (ONLY(1),)),
    (within(fill(times(3, CELL)), rest="exact"), (MULTIPLES, (FULL,), (~MULTIPLES,))),
    (within(fill(times(3, CELL)), rest="exact", most=7), (ONLY(0, 3, 6), (up_to(7),), (ONLY(1, 2, 4, 5, 7),))),
    (within(fill(CELL)), (FULL, (FULL,), (NONE,))),
    (row(need(3), within(CELL, "told")), (FROM(1),)),
    (row(need(3), within(fill(CELL), "told", most=2)), (up_to(2), (up_to(2),), (NONE,), (NONE,))),
    (within(fill(CELL), "told", most=0), (ONLY(0), (ONLY(0),), (NONE,))),
    (row(need(4), within(fill(NOTHING), "told")), (ONLY(0), (FULL,), (FROM(1),), (FROM(3),))),
    (row(need(4), within(counted(row(CELL, pad(2)), most=1), "told")), (FROM(1),)),
    (within(fill(row(CELL, pad(3))), rest="exact"), (MULTIPLES, (FULL, NONE, NONE), (~MULTIPLES, NONE, NONE))),
    (within(within(CELL)), (FROM(2), FROM(1), NONE)),
    (within(within(CELL, rest="exact"), most=4), (up_to(4) - up_to(1), ONLY(1), NONE)),
)


class Papers(unittest.TestCase):
    def is_right(self, reader, paper):
        self.assertIsInstance(paper, tuple)
        self.assertEqual(len(paper), 2)
        self.assertIsInstance(paper[1], tuple)
        self.assertIs(accepts(reader, paper), True, reader.part)
        verdict = verdict_of(reader)
        self.assertEqual(paper[0], "never" if verdict else "beyond")
        if not verdict:
            self.assertEqual(paper[1], tuple(verdict.row))

    def test_known(self):
        for part, entries in PAPERS:
            reader = Reader(part)
            self.is_right(reader, paper_of(reader))
            found = paper_of(reader=reader)[1]
            self.assertEqual(len(found), len(entries), part)
            for one, other in zip(found, entries):
                self.assertEqual(one, other, part)

    def test_the_second_walk_has_the_other_lengths(self):
        part = within(row(need(2), fill(CELL)))
        self.assertEqual(paper_of(Reader(part)), ("never", (FROM(2), (FULL,), (NONE,))))
        part = within(counted(NOTHING), rest="exact")
        self.assertEqual(paper_of(Reader(part)), ("never", (ONLY(1), (FULL,), (FROM(1),))))
        part = within(row(fill(CELL), fill(CELL), CELL), rest="exact")
        self.assertEqual(paper_of(Reader(part)), ("never", (NONE, (FULL,), (ONLY(0),), (FULL,), (ONLY(0),))))
        self.is_right(Reader(part), paper_of(Reader(part)))

    def test_beyond(self):
        self.assertEqual(paper_of(Reader(BARE)), ("beyond", ()))
        for part in (row(CELL, BARE), counted(BARE), within(fill(CELL), "told"), fill(row(ONE, BARE)),
                     within(row(within(CELL), BARE))):
            paper = paper_of(Reader(part))
            self.is_right(Reader(part), paper)
            self.assertEqual(paper[0], "beyond")
            self.assertEqual(Reader(part)(list(paper[1])).kind, "beyond")

    def test_drawn_papers_have_the_least_entries(self):
        many = 0
        for reader in drawn_readers(114, 250, 5, 10, 24) + well_checked_readers(115, 250):
            paper = paper_of(reader)
            self.is_right(reader, paper)
            self.assertEqual(paper, paper_of(Reader(reader.part)))
            if paper[0] == "never":
                many += len(paper[1])
                for entry in paper[1]:
                    self.assertIsInstance(entry, (tuple, LengthSet))
                self.assertEqual([sure_bits(entry) for entry in paper[1]], least_entries(reader.part), reader.part)
        self.assertGreater(many, 200)

    def test_as_large_as_may_be(self):
        start = time.monotonic()
        words = []
        for reader in large_readers(116, 60) + well_checked_readers(117, 60, large=True):
            paper = paper_of(reader)
            self.is_right(reader, paper)
            words.append(paper[0])
        self.assertGreater(min(words.count(word) for word in ("never", "beyond")), 10)
        # Entries of a great period, in limits in one another.
        part = within(choice(fill(times(4, times(4, row(CELL)))), fill(times(5, times(3, CELL)))), rest="exact")
        paper = paper_of(Reader(within(part)))
        self.is_right(Reader(within(part)), paper)
        self.assertEqual(paper[1][1].period, 240)
        self.assertLess(time.monotonic() - start, 60)

    def test_wrong_arguments(self):
        for thing in strange_objects() + [CELL]:
            with self.assertRaises(NoWord) as caught:
                paper_of(thing)
            self.assertIs(caught.exception.value, thing)

    def test_too_large(self):
        part = CELL
        for turn in range(6):
            part = counted(part, most=9)
        for call in (paper_of, lambda reader: lefts_at(reader, (0,) * 6), lambda reader: surely_left(reader, ())):
            with self.assertRaises(TooLarge):
                call(Reader(part))


if __name__ == "__main__":
    unittest.main()
