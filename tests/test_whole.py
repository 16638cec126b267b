"""What the document promises over the whole program, with the reader itself as the judge."""

import itertools
import random
import unittest

from drawn import KINDS, all_rows, drawn_readers, large_readers, well_checked_readers
from made import BARE, CELL, NOTHING, counted, fill, row, times, within
from strange import strange_objects
from withinlimits.alike import are_alike, differs, parted, union_of
from withinlimits.cells import Cursor
from withinlimits.checker import Claim, accepts, claim_of
from withinlimits.console import Console
from withinlimits.errors import LimitError, NoChange, Stopped
from withinlimits.fronts import Front
from withinlimits.lengths import Verdict, example, lengths_of, verdict_of
from withinlimits.menus import changed, least_changes
from withinlimits.papers import lefts_at, paper_of, surely_left
from withinlimits.parts import is_part, part_at, replaced, size_of, subparts
from withinlimits.reading import Outcome, Reader
from withinlimits.sessions import Session
from withinlimits.sets import LengthSet
from withinlimits.sites import (
    fewest, format_of, hoisted, idle_sites, is_same_format, kept, least_sets, sites, without)
from withinlimits.texts import read_reader, show
from withinlimits.work import idle_of, most_work

ROWS = {length: all_rows(length, (*range(4), 9)) for length in range(4)}


class Guarantees(unittest.TestCase):
    READERS = drawn_readers(171, 120) + well_checked_readers(172, 60)

    def test_lengths_and_examples(self):
        for reader in self.READERS:
            for kind in KINDS:
                lengths = lengths_of(reader, kind)
                for length, rows in ROWS.items():
                    if any(reader(cells).kind == kind for cells in rows):
                        self.assertIn(length, lengths)
                for length in (*range(9), 100, 1000):
                    cells = example(reader, kind, length)
                    self.assertEqual(cells is None, length not in lengths)
                    if cells is not None:
                        self.assertEqual((len(cells), reader(cells).kind), (length, kind))

    def test_verdicts_papers_and_checks_agree(self):
        words = []
        for reader in self.READERS:
            verdict = verdict_of(reader)
            looks = [cells for rows in ROWS.values() for cells in rows if reader(cells).kind == "beyond"]
            word, told = paper_of(reader)
            words.append(word)
            self.assertTrue(accepts(reader, (word, told)))
            self.assertEqual(Claim(reader, (word, told)).word, word)
            self.assertIs(bool(verdict), word == "never")
            if verdict:
                self.assertEqual(looks, [])
                self.assertIsNone(verdict.row)
            else:
                self.assertEqual(reader(verdict.row).kind, "beyond")
                self.assertEqual(list(told), verdict.row)
                self.assertTrue(all(len(cells) >= len(verdict.row) for cells in looks))
            if len(sites(reader)) <= 5:
                least = least_sets(reader)
                self.assertIs(len(least) > 0, bool(verdict))
                for checks in least:
                    self.assertTrue(accepts(kept(reader, *checks), paper_of(kept(reader, *checks))))
                    self.assertTrue(verdict_of(kept(reader, *checks)))
                    for fewer in itertools.combinations(checks, max(0, len(checks) - 1)):
                        self.assertEqual(len(fewer) == len(checks), bool(verdict_of(kept(reader, *fewer))))
        self.assertGreater(min(words.count("never"), words.count("beyond")), 20)

    def test_greatest_work(self):
        for reader in self.READERS:
            idle = idle_of(reader)
            for length, rows in ROWS.items():
                work = most_work(reader, length)
                if work is not None:
                    self.assertGreaterEqual(work, max(reader(cells).work for cells in rows))
                else:
                    self.assertIsNotNone(idle)
            if idle is not None:
                cells, index = idle
                more = cells[:index] + [10 ** 9] + cells[index + 1:]
                self.assertGreaterEqual(reader(more).turns, 10 ** 9)
                self.assertEqual(reader(more).looks, reader(cells).looks)

    def test_readers_of_one_format(self):
        draw = random.Random(173)
        for reader in self.READERS:
            checks = sites(reader)
            one = without(reader, *[check for check in checks if draw.random() < 0.3])
            other = without(reader, *[check for check in checks if draw.random() < 0.3])
            self.assertTrue(is_same_format(one, other))
            for places in (True, False):
                cells = parted(one, other, places=places)
                self.assertIs(are_alike(one, other, places=places), cells is None)
                if cells is not None:
                    self.assertTrue(differs(one, other, cells, places=places))
                longest = 4 if cells is None else min(4, len(cells))
                for length in range(longest):
                    for shorter in ROWS[length]:
                        self.assertFalse(differs(one, other, shorter, places=places), (one.part, other.part))
            both = union_of(one, other)
            if verdict_of(one) or verdict_of(other):
                self.assertTrue(verdict_of(both))

    def test_menus_reach_their_goals(self):
        for reader in self.READERS[::2]:
            menu = [("look", path) for path, part in subparts(reader.part) if part[0] in ("cell", "choice", "counted")][:3]
            menu.append(("need", (), 2))
            for goal in ("never", "ends", "bounded"):
                lists = least_changes(reader, menu, goal=goal)
                for changes in lists:
                    other = changed(reader, *changes)
                    self.assertTrue(verdict_of(other))
                    self.assertTrue(goal != "ends" or not lengths_of(other, "endless"))
                    self.assertTrue(goal != "bounded" or idle_of(other) is None)
                    self.assertIs(Session(reader).kept_if(goal=goal), changes == [])
                self.assertEqual(len(lists), len({tuple(changes) for changes in lists}))

    def test_texts_are_read_back(self):
        draw = random.Random(174)
        for reader in self.READERS:
            some = [reader, format_of(reader), union_of(reader, format_of(reader))]
            path, part = draw.choice(subparts(reader.part))
            for change in (("need", path, 9), ("look", path), ("most", path, 0)):
                try:
                    some.append(changed(reader, change))
                except NoChange:
                    pass
            for one in some:
                self.assertEqual(read_reader(show(one)), one)
                self.assertEqual("\n".join(Console(one).answer("show")), show(one))

    def test_behind_an_error_in_a_trial(self):
        for reader in self.READERS[::3]:
            session = Session(reader)
            session.apply(("need", (), 1))
            now, history = session.reader, session.history()
            for error in (LimitError(), Stopped(3), KeyError()):
                with self.assertRaises(type(error)):
                    with session.trial() as trial:
                        trial.keep()
                        session.put(Reader(CELL))
                        session += ("need", (), 1)
                        session.undo()
                        raise error
                self.assertEqual((session.reader, session.history()), (now, history))

    def test_equal_calls(self):
        for reader in self.READERS[::3] + large_readers(175, 10):
            fresh = Reader(reader.part)
            for call in (sites, paper_of, show, idle_of, lambda one: most_work(one, 7), idle_sites, format_of,
                         lambda one: lengths_of(one, "beyond"), lambda one: lefts_at(one, ()), lambda one: one([1, 2]),
                         lambda one: verdict_of(one).row, lambda one: parted(one, format_of(one), places=False)):
                first = call(reader)
                self.assertEqual(call(reader), first)
                self.assertEqual(call(fresh), first)


READER = Reader(row(counted(BARE), within(fill(CELL), most=3)))
OTHER = Reader(row(counted(CELL), within(fill(BARE), most=3)))
# Each function and class with its arguments in order: once for each.
CALLS = (
    (LengthSet, {"early": [1], "start": 3, "period": 2, "rests": [0]}), (LengthSet.from_least, {"number": 3}),
    (LengthSet.full().below, {"bound": 2}),
    (Cursor([1, 2]).need, {"many": 1}), (lambda low, high: Cursor([1, 2]).look(low=low, high=high), {"low": 1, "high": 2}),
    (lambda low, high: Cursor([1, 2]).bare(high=high, low=low), {"low": 1, "high": 2}), (is_part, {"thing": CELL}),
    (size_of, {"part": CELL}), (subparts, {"part": READER.part}), (part_at, {"part": READER.part, "path": (1,)}),
    (replaced, {"part": READER.part, "path": (1,), "other": CELL}), (Reader, {"part": CELL}), (READER, {"row": [0, 1]}),
    (show, {"reader": READER}), (read_reader, {"text": "cell 0.."}), (lengths_of, {"reader": READER, "kind": "read"}),
    (example, {"reader": READER, "kind": "read", "length": 3}), (Verdict, {"reader": READER}),
    (verdict_of, {"reader": READER}), (most_work, {"reader": READER, "length": 3}), (idle_of, {"reader": READER}),
    (Front.begin, {"lengths": LengthSet.full(), "period": 2}), (Front(LengthSet.full()).passed, {"lengths": LengthSet.full()}),
    (sites, {"reader": READER}), (without, {"reader": READER}), (kept, {"reader": READER}), (format_of, {"reader": READER}),
    (is_same_format, {"reader": READER, "other": OTHER}), (least_sets, {"reader": READER}), (fewest, {"reader": READER}),
    (idle_sites, {"reader": READER}), (hoisted, {"reader": READER, "path": (0,)}),
    (lefts_at, {"reader": READER, "path": (1,)}), (surely_left, {"reader": READER, "path": (1,)}),
    (paper_of, {"reader": READER}), (accepts, {"reader": READER, "paper": ("beyond", (1,))}),
    (claim_of, {"reader": READER, "paper": ("beyond", (1,))}), (Claim, {"reader": READER, "paper": ("beyond", (1,))}),
    (Claim(READER, ("beyond", (1,))), {"other": READER}),
    (differs, {"reader": READER, "other": OTHER, "row": [1]}), (parted, {"reader": READER, "other": OTHER}),
    (are_alike, {"reader": READER, "other": OTHER}), (union_of, {"reader": READER, "other": OTHER}),
    (changed, {"reader": READER}), (least_changes, {"reader": READER, "menu": [("look", (0, 0))]}),
    (Session, {"reader": READER}), (Session(READER).put, {"reader": OTHER}), (Session(READER), {"row": [1]}),
    (Session(READER).during, {"call": lambda trial: 7}), (Console, {"reader": READER}),
    (Console(READER).answer, {"line": "checks"}),
)


def told(thing):
    """What an object tells, to hold it against another one of its class."""
    if isinstance(thing, (Verdict, Claim, Session, Console)):
        return type(thing), getattr(thing, "row", None), getattr(thing, "word", None)
    return list(thing) if hasattr(thing, "__next__") else thing


class ByName(unittest.TestCase):
    def test_each_call(self):
        for call, named in CALLS:
            turned = dict(reversed(list(named.items())))
            first = told(call(*named.values()))
            self.assertEqual(told(call(**named)), first, call)
            self.assertEqual(told(call(**turned)), first, call)

    def test_arguments_behind_a_star(self):
        cursor = Cursor(row=[2, 5, 7, 8])
        limit = cursor.within(limit="cut", many=2)
        self.assertEqual(cursor.during(call=lambda same: same.look(high=None, low=0), limit=limit), 2)
        cursor.behind(rest="skip", limit=limit)
        self.assertEqual(cursor.at, 2)
        session = Session(READER)
        self.assertIs(session.tried(goal="never"), False)
        self.assertIs(session.kept_if(("look", (0, 0)), goal="ends"), True)
        for call in (lambda: least_changes(READER, [], "never"), lambda: parted(READER, OTHER, True),
                     lambda: Cursor([]).within(0, "cut"), lambda: are_alike(READER, OTHER, True),
                     lambda: differs(READER, OTHER, [], True)):
            with self.assertRaises(TypeError):
                call()


class Conventions(unittest.TestCase):
    def test_unequal_to_objects_of_other_classes(self):
        things = [LengthSet(), Reader(CELL), Reader(CELL)([1]), Front(LengthSet()), Session(Reader(CELL)),
                  Console(Reader(CELL)), verdict_of(Reader(CELL)), Claim(Reader(CELL), ("never", ()))]
        self.assertIsInstance(things[2], Outcome)
        for index, one in enumerate(things):
            self.assertIs(one == one, True)
            for other in things[:index] + things[index + 1:] + strange_objects()[:-2]:
                self.assertIs(one == other, False)
                self.assertIs(one != other, True)

    def test_lists_that_were_passed(self):
        early, rests, cells = [1], [0], [1, 1]
        lengths, cursor = LengthSet(early, 3, 2, rests), Cursor(cells)
        menu = [("look", (0, 0)), ("look", (1, 0, 0))]
        found = least_changes(OTHER, menu)
        self.assertEqual((early, rests, cells, menu), ([1], [0], [1, 1], [("look", (0, 0)), ("look", (1, 0, 0))]))
        for one in (early, rests, cells, menu):
            one.clear()
        self.assertEqual((lengths.early, lengths.rests, len(cursor), cursor.look()), ([1], [0], 2, 1))
        self.assertEqual(found, [[]])

    def test_new_lists(self):
        reader = Reader(row(times(2, counted(BARE)), NOTHING))
        outcome, verdict, lengths = reader([0, 0]), verdict_of(reader), LengthSet([1], 3, 2, [0])
        for call in (lambda: outcome.numbers, lambda: verdict.row, lambda: lengths.early, lambda: lengths.rests,
                     lambda: sites(reader), lambda: example(reader, "read", 3), lambda: subparts(reader.part),
                     lambda: idle_sites(Reader(CELL)), lambda: least_sets(Reader(CELL)),
                     lambda: least_changes(reader, [("look", (0, 0, 0))]), lambda: Session(reader).history(),
                     lambda: parted(reader, format_of(reader)), lambda: Console(reader).answer("show")):
            first = call()
            self.assertIsInstance(first, list)
            wanted = list(first)
            first.append(None)
            self.assertEqual(call(), wanted)


if __name__ == "__main__":
    unittest.main()
