import random
import time
import unittest

from drawn import all_rows, drawn_readers, large_readers, well_checked_readers
from made import BARE, CELL, GREAT, NOTHING, ONE, choice, counted, fill, if_left, pad, row, times, within
from strange import strange_objects
from walked import fits
from withinlimits.checker import Claim, accepts, claim_of
from withinlimits.errors import LimitError, NoPaper, NoWord, TooLarge
from withinlimits.fronts import Front
from withinlimits.lengths import verdict_of
from withinlimits.papers import paper_of
from withinlimits.reading import Reader
from withinlimits.sets import LengthSet
from withinlimits.sites import sites, without

FULL, NONE, ONLY, FROM = LengthSet.full(), LengthSet.none(), LengthSet.only, LengthSet.from_least
EVEN, ODD = LengthSet((), 0, 2, (0,)), LengthSet((), 0, 2, (1,))
BARE_PAD = {many: pad(many, "bare") for many in range(2, 7)}


def up_to(number):
    return FULL - FROM(number + 1)


def need(many):
    return ("need", many)


# Parts, entries of papers that are right, and entries of papers that are not.
WALKS = (
    # A bare look with 0 in the front.
    (BARE, (), ((),)),
    (row(need(1), BARE), ((),), ((NONE,), ((NONE,),))),
    (row(need(1), BARE, BARE), (), ((),)),
    (row(need(2), BARE, BARE), ((),), ()),
    (row(CELL, BARE), (), ((),)),
    # Behind a checked look fewer are left.
    (row(need(3), CELL, BARE, BARE), ((),), ()),
    (row(need(2), CELL, BARE, BARE), (), ((),)),
    # Each kind of look, and what is left behind it.
    (row(need(1), choice(NOTHING, manner="bare")), ((),), ()),
    (choice(NOTHING, manner="bare"), (), ((),)),
    (row(need(1), within(NOTHING, manner="bare")), ((FULL,),), ((),)),
    (within(NOTHING, manner="bare"), (), ((FULL,),)),
    (row(need(1), counted(NOTHING, manner="bare")), (((FULL,),),), ((),)),
    (counted(NOTHING, manner="bare"), (), (((FULL,),),)),
    (row(need(2), choice(BARE, BARE)), ((),), ()),
    (row(need(2), choice(NOTHING, row(BARE, BARE))), (), ((),)),
    # Behind a choice there is what is behind any of its options.
    (row(need(3), choice(CELL, NOTHING), BARE), ((),), ()),
    (row(need(3), choice(CELL, NOTHING), BARE, BARE), (), ((),)),
    (row(choice(need(2), need(3)), BARE, BARE), ((),), ()),
    (row(choice(need(2), need(1)), BARE, BARE), (), ((),)),
    # Times, with as many walks through their part.
    (row(need(3), times(3, BARE)), ((),), ()),
    (row(need(2), times(3, BARE)), (), ((),)),
    (times(0, BARE), ((),), ()),
    (times(0, fill(CELL)), ((),), (((FULL,),),)),
    (times(2, fill(CELL)), (((FULL,), (FULL,)), ((FULL,), (ONLY(0),))), (((FULL,),), ((FULL,), (NONE,)))),
    # Counted, with ahead and most.
    (counted(BARE), (), (((FULL,),), ((FROM(1),),))),
    (counted(BARE, ahead=0), (((FULL,),),), (((FROM(1),),), ((NONE,),), ())),
    (counted(row(BARE, BARE), ahead=0), (((FULL,),),), (((EVEN,),),)),
    (row(counted(BARE, ahead=2), BARE, BARE), (((FULL,),),), (((FROM(2),),),)),
    (row(counted(BARE, ahead=2), BARE, BARE, BARE), (), (((FULL,),),)),
    (row(counted(NOTHING, ahead=1), BARE), (((FULL,),),), (((FROM(1),),),)),
    (counted(BARE, most=2, ahead=0), ((),), (((FULL,),),)),
    (row(counted(BARE, most=2, ahead=1), BARE), ((),), ()),
    (row(counted(BARE, most=2, ahead=1), BARE, BARE), (), ((),)),
    (counted(BARE, most=1), (), ((),)),
    (row(need(4), counted(BARE, most=3)), ((),), ()),
    (row(need(3), counted(BARE, most=3)), (), ((),)),
    (row(need(4), counted(CELL, most=2), BARE), ((),), ()),
    (row(need(3), counted(CELL, most=2), BARE), (), ((),)),
    (row(need(3), counted(CELL, most=2), CELL), ((),), ()),
    (counted(BARE, most=0), ((),), ()),
    (row(counted(BARE, most=0, ahead=2), BARE, BARE), ((),), ()),
    (row(counted(BARE, most=0, ahead=2), BARE, BARE, BARE), (), ((),)),
    (row(need(2), counted(fill(CELL), most=2)), (((FULL,), (FULL,)), ((FROM(0),), (ONLY(0),))), (((FULL,),),)),
    # A loop whose entry is too small at the beginning.
    (fill(CELL), (((FULL,),),), (((FROM(1),),), ((EVEN,),), ((NONE,),), ((up_to(100),),))),
    (row(need(2), counted(NOTHING)), (((FROM(1),),), ((FULL,),)), (((FROM(2),),), ((ODD,),))),
    # One that does not hold behind a turn.
    (row(need(2), counted(CELL)), (((FULL,),),), (((FROM(1),),),)),
    (row(need(9), counted(times(2, CELL))), (((FULL,),),), (((FROM(8),),), ((FROM(1),),), ((FROM(7) | EVEN,),))),
    (within(fill(CELL), rest="exact", most=3),
     ((up_to(3), (up_to(3),), (NONE,)), (FULL, (FULL,), (NONE,))),
     ((FROM(1), (up_to(3),), (NONE,)), (FULL, (FULL,), (up_to(2),)))),
    # One that lets a look fail.
    (row(fill(CELL), counted(BARE)), (((FULL,), (NONE,)),),
     (((FULL,), (ONLY(0),)), ((FULL,), (FULL,)), ((FULL,), (ONLY(1),)))),
    (row(fill(BARE), fill(row(BARE, BARE))), (((FULL,), (ONLY(0),)),), (((FULL,), (FULL,)), ((FULL,), (NONE,)))),
    (row(fill(CELL), counted(times(2, BARE), ahead=0)), (((FULL,), (NONE,)), ((FULL,), (FULL,)), ((FULL,), (EVEN,))),
     (((FULL,), (FROM(1),)),)),
    # Behind a fill nothing is left.
    (row(fill(CELL), need(1), BARE), (((FULL,),),), ()),
    (row(fill(CELL), BARE), (), (((FULL,),),)),
    (row(fill(CELL), CELL, BARE), (((FULL,),),), ()),
    (fill(NOTHING), (((FULL,),),), (((FROM(1),),),)),
    (fill(fill(CELL)), (((FULL,), (FULL,)),), (((FULL,), (FROM(2),)), ((FULL,),), ((FULL,), (FULL,), (FULL,)))),
    # If something is left.
    (if_left(BARE), ((),), ()),
    (if_left(row(BARE, BARE)), (), ((),)),
    (row(need(2), if_left(CELL), BARE), ((),), ()),
    (row(need(1), if_left(CELL), BARE), (), ((),)),
    (row(CELL, if_left(need(2)), if_left(row(BARE, BARE))), ((),), ()),
    # The front of what is not left goes on too.
    (row(if_left(need(3)), BARE), (), ((),)),
    (row(if_left(fill(CELL)), fill(BARE)), (((FULL,), (ONLY(0),)),), (((FULL,), (NONE,)), ((FROM(1),), (ONLY(0),)))),
    # Needs.
    (row(need(5), need(2), times(5, BARE)), ((),), ()),
    (row(need(2), need(5), times(6, BARE)), (), ((),)),
    (row(fill(CELL), need(1), fill(BARE)), (((FULL,), (NONE,)), ((FULL,), (FULL,))), ()),
    # Pads, in a rhythm of two and of three.
    (BARE_PAD[2], ((),), ()),
    (row(CELL, BARE_PAD[2]), (), ((),)),
    (row(need(2), CELL, BARE_PAD[2]), ((),), ()),
    (row(need(6), CELL, BARE_PAD[6]), ((),), ()),
    (row(need(5), CELL, BARE_PAD[6]), (), ((),)),
    (row(need(3), CELL, BARE_PAD[2], BARE_PAD[3]), ((),), ()),
    (row(need(2), CELL, BARE_PAD[2], BARE_PAD[3]), (), ((),)),
    (row(need(4), CELL, BARE_PAD[3], BARE_PAD[2]), ((),), ()),
    (row(need(3), CELL, BARE_PAD[3], BARE_PAD[2]), (), ((),)),
    (row(need(8), CELL, BARE_PAD[3], BARE_PAD[2], CELL, BARE_PAD[4]), ((),), ()),
    (row(need(7), CELL, BARE_PAD[3], BARE_PAD[2], CELL, BARE_PAD[4]), (), ((),)),
    (row(need(2), CELL, pad(2), pad(2, "bare")), ((),), ()),
    (fill(row(BARE, pad(2))), (((FULL, NONE),), ((FULL, FULL),)), (((NONE, FULL),), ((FULL,),), ((FULL, NONE, NONE),))),
    (fill(row(BARE, pad(2), BARE)), (), (((FULL, FULL),), ((FULL, NONE),))),
    (fill(row(BARE, pad(2), CELL)), (((FULL, FULL),),), (((FULL, NONE),), ((FULL, FROM(1)),))),
    (fill(row(BARE, pad(3), pad(2))), (((FULL, NONE, NONE, NONE, FULL, NONE),), ((FULL,) * 6,)),
     (((FULL, NONE, NONE),), ((FULL, NONE),), ((FULL, NONE, NONE, FULL, NONE, NONE),), ((FULL, NONE, NONE) * 2,))),
    (fill(row(BARE, pad(2), pad(3), pad(4))), (((FULL, NONE, NONE, NONE) * 3,), ((FULL,) * 12,)),
     (((FULL,) + (NONE,) * 11,), ((FULL, NONE, NONE, NONE),), ((FULL,) * 6,), ((FULL,) * 11,), ((NONE,) + (FULL,) * 11,))),
    # A pad in a limit counts for it alone.
    (fill(row(BARE, within(row(CELL, pad(2))))),
     (((FULL,), FROM(2)), ((FULL,), FULL)), (((FULL, FULL), FROM(2)), ((FULL, NONE), FROM(2)))),
    (row(CELL, within(row(need(2), CELL, BARE_PAD[2]), most=2)), ((FULL,), (ONLY(2),)), ((up_to(1),), (NONE,))),
    (row(CELL, within(row(need(3), CELL, BARE_PAD[3], within(pad(5), most=0)))), ((FROM(4), ONLY(0), NONE),
     (FULL, FULL, FULL)), ((FROM(5), ONLY(0), NONE), (FROM(4), ONLY(0)))),
    # Within, with skip: the lengths that are not in the entry cannot be read at all.
    (within(CELL), ((FROM(1),), (FULL,)), ((FROM(2),), (ODD,), (NONE,), (ONLY(1),), ())),
    (within(CELL, "cut"), ((FROM(1),), (FULL,)), ((FROM(2),), (NONE,))),
    (within(need(4)), ((FROM(4),), (FROM(3),)), ((FROM(5),), (FULL - ONLY(7),))),
    # With exact they cannot be read just to the end.
    (within(CELL, rest="exact"), ((ONLY(1),), (ODD,), (FULL,), (FROM(1),)), ((FROM(2),), (NONE,), (EVEN,))),
    (within(times(3, CELL), rest="exact"), ((ONLY(3),),), ((ONLY(2, 4),),)),
    (within(fill(times(2, CELL)), "cut", "exact"), ((EVEN, (FULL,), (ODD,)), (FULL, (FULL,), (NONE,)), (FULL, (FULL,), (ODD,))),
     ((EVEN, (FULL,), (FULL,)), (ODD, (FULL,), (EVEN,)), (EVEN, (FULL,), (NONE,)), (EVEN, (EVEN,), (ODD,)), (EVEN, (FULL,)))),
    # Behind it as much less is left as a length of the entry.
    (row(need(4), within(CELL, rest="exact"), BARE, BARE), ((ONLY(1),),), ((ODD,), (ONLY(1, 2),), (FULL,))),
    (row(need(3), within(CELL, rest="exact"), BARE, BARE), (), ((ONLY(1),),)),
    (row(need(4), within(NOTHING, most=1), BARE, BARE), ((FULL,), (up_to(1),), (ONLY(0, 1, 2, 3),)), ((ONLY(0),),)),
    (row(need(4), within(NOTHING, most=2), BARE, BARE), (), ((FULL,), (up_to(2),))),
    (row(need(4), within(row(need(2), NOTHING), most=1), BARE, BARE, BARE), ((NONE,), (FROM(2),)), ((ONLY(1),),)),
    # Members of the entry that are no starts do not count.
    (within(CELL, most=2), ((ONLY(1, 2),), (FROM(1),), (FULL,), (ONLY(1, 2, 900),)), ((ONLY(2, 900),),)),
    (row(fill(CELL), within(NOTHING)), (((FULL,), NONE), ((FULL,), FULL)), ()),
    (within(within(NOTHING), most=3), ((up_to(3), up_to(2), NONE), (FULL, FULL, FULL),
                                       (ONLY(1, 2, 3), ONLY(0, 1, 2), ONLY(5))), ((up_to(3), ONLY(0, 1), NONE),)),
    # Both walks through the part take entries; a look fails in the first.
    (within(row(need(2), counted(BARE, ahead=0)), rest="exact"),
     ((FULL, (FULL,), (NONE,)), (FROM(2), (FULL,), (NONE,))),
     ((FULL, (FULL,), (FULL,)), (FULL, (FULL,)), (FULL, (NONE,), (FULL,)), (FULL, (FULL,), (NONE,), (NONE,)), (ONLY(0), (FULL,), (FULL,)))),
    (within(BARE), (), ((FULL,), (FROM(1),), (NONE,))),
    (within(row(need(1), BARE), most=1), ((ONLY(1),), (FULL,)), ((ONLY(0),),)),
    # Told: lengths that end within what is around, and then a gap.
    (row(need(2), within(CELL, "told")), ((FROM(1),), (FULL,)), ((FROM(2),),)),
    (row(need(1), within(CELL, "told")), (), ((FROM(1),), (FULL,))),
    (within(fill(CELL), "told"), (), ((FULL, (FULL,), (NONE,), (FULL,)), (FULL, (FULL,), (NONE,), (NONE,)))),
    (within(fill(CELL), "told", most=0), ((ONLY(0), (ONLY(0),), (NONE,)), (FULL, (FULL,), (NONE,))),
     ((ONLY(0), (ONLY(0),), (NONE,), (NONE,)), (FULL, (FULL,), (FULL,)), (NONE, (ONLY(0),), (ONLY(0),)))),
    (row(need(4), within(fill(CELL), "told", most=3)),
     ((up_to(3), (up_to(3),), (NONE,), (NONE,)), (up_to(3), (up_to(3),), (NONE,), (FROM(3) & NONE,))),
     ((up_to(3), (up_to(3),), (NONE,)), (up_to(3), (up_to(3),), (NONE,), (ONLY(0),)),
      (up_to(3), (up_to(3),), (NONE,), (FULL,)))),
    (row(need(3), within(fill(CELL), "told", most=3)), (),
     ((up_to(3), (up_to(3),), (NONE,), (ONLY(2),)), (up_to(3), (up_to(3),), (NONE,), (up_to(2),)))),
    (row(need(3), within(row(CELL, CELL), "told", most=3)), ((FROM(2),), (ONLY(2, 3),)), ((FROM(3),),)),
    (row(need(2), within(row(CELL, CELL), "told", most=1)), ((NONE,), (FULL,), (ONLY(1),)), ((),)),
    (row(need(2), within(row(CELL, CELL), "told", most=2)), (), ((ONLY(2),), (FULL,))),
    # In a gap a checked look fails too, a fill goes on and has nothing behind it.
    (row(need(2), within(fill(NOTHING), "told")),
     ((ONLY(0), (FULL,), (FROM(1),), (FROM(1),)), (ONLY(0), (FULL,), (FULL - ONLY(0),), (FULL,))),
     ((ONLY(0), (FULL,), (FROM(1),), (FROM(2),)), (ONLY(0), (FULL,), (FROM(1),)))),
    (row(need(2), within(row(fill(NOTHING), times(3, CELL)), "told")),
     ((NONE, (FULL,), (FULL,), (FULL,)),), ((NONE, (FULL,), (FULL,), (NONE,)),)),
    (row(need(3), within(row(if_left(CELL), CELL), "told")), ((FROM(2),), (FROM(1),), (FULL,)), ((FROM(3),),)),
    (row(need(2), within(row(if_left(CELL), CELL), "told")), (), ((FROM(2),), (FULL,))),
    # In a gap the part of an if left is read with all that can be left.
    (within(if_left(CELL), "told"), (), ((FULL,),)),
    (row(need(2), within(if_left(CELL), "told")), ((FULL,), (FROM(0),)), ((FROM(1),), (NONE,))),
    (within(if_left(CELL), "told", most=0), ((FULL,), (ONLY(0),)), ((NONE,),)),
    (row(need(2), within(row(CELL, pad(2)), "told")), (), ((FROM(2),),)),
    (row(need(3), within(row(CELL, pad(2)), "told")), ((FROM(2),),), ((FROM(3),),)),
    (row(need(4), within(counted(CELL, most=2), "told")), ((FROM(1),),), ((FROM(3),),)),
    (row(need(3), within(counted(CELL, most=2), "told")), (), ((FROM(1),),)),
    (row(need(9), within(counted(CELL), "told", most=8)),
     ((FROM(1), (up_to(7),), (NONE,), (NONE,)), (FULL, (FULL,), (NONE,), (NONE,))),
     ((FULL, (FULL,), (FULL,), (NONE,)), (FROM(1), (up_to(7),), (NONE,), (ONLY(0),)), (FULL, (up_to(6),), (NONE,), (NONE,)))),
    (row(need(3), choice(within(CELL, "told"), within(CELL))), ((FROM(1), FROM(1)),), ((FROM(1),), (FULL, NONE))),
)


class Walks(unittest.TestCase):
    def test_known(self):
        for part, right, wrong in WALKS:
            reader = Reader(part)
            for entries in right:
                self.assertIs(accepts(reader, ("never", entries)), True, (part, entries))
                self.assertTrue(fits(part, entries), part)
                self.assertTrue(verdict_of(reader))
                # One more entry, or one less.
                for more in (FULL, NONE, (FULL,), (NONE,), (NONE, NONE), None):
                    self.assertIs(accepts(reader, ("never", entries + (more,))), False)
                if entries:
                    self.assertIs(accepts(reader, ("never", entries[:-1])), False)
                    self.assertIs(accepts(reader, ("never", entries[1:])), False)
            for entries in wrong:
                self.assertIs(accepts(reader, ("never", entries)), False, (part, entries))
                self.assertFalse(fits(part, entries))
            if not right:
                self.assertFalse(verdict_of(reader), part)

    def test_entries_of_other_kinds(self):
        """A tuple for a loop, a set for a limit, and nothing else in their places."""
        for part, right, wrong in WALKS:
            reader = Reader(part)
            for entries in right:
                for index, entry in enumerate(entries):
                    others = strange_objects() + [FULL, NONE, Front(FULL), list(range(3)), (NONE, None), ((FULL,),)]
                    if isinstance(entry, tuple):
                        others += [list(entry), Front(*entry), entry + (NONE,), entry[:-1], entry[:-1] + (None,),
                                   entry[:-1] + (Front(FULL),), entry[0]]
                    else:
                        others += [(entry,), [entry], Front(entry), entry.early]
                    for other in others:
                        if isinstance(other, LengthSet) and isinstance(entry, LengthSet):
                            continue
                        changed = entries[:index] + (other,) + entries[index + 1:]
                        self.assertIs(accepts(reader, ("never", changed)), False, (part, changed))

    def test_no_papers(self):
        for reader in (Reader(row(("cell", 5, 5, "checked"), BARE)), Reader(fill(CELL)), Reader(within(CELL))):
            for thing in strange_objects():
                for paper in (thing, (thing, ()), ("never", thing), ("beyond", thing), (thing, thing),
                              ("never", (thing,)), ("beyond", (thing, 1)), ("never", (), thing), (thing, "never", ())):
                    self.assertIs(accepts(reader, paper), False)
        reader = Reader(CELL)
        for paper in (["never", ()], ("never", []), ("Never", ()), ("never",), ("never", (), ()), (b"never", ()),
                      ("beyond", ()), ("never ", ()), (("never",), ()), "never", ("ends", ()), ("never", {})):
            self.assertIs(accepts(reader, paper), False)
        self.assertIs(accepts(paper=("never", ()), reader=reader), True)

    def test_rows(self):
        reader = Reader(row(ONE, BARE))
        self.assertIs(accepts(reader, ("beyond", (1,))), True)
        for cells in ((), (0,), (2,), (1, 1), (True,), (1.0,), ("1",), (None,), ([1],), (-1,), (10 ** 30 + 1,), (1, GREAT),
                      [1], "1", 1, None, ((1,),), (1,) * 10001):
            self.assertIs(accepts(reader, ("beyond", cells)), False, cells)
        self.assertIs(accepts(Reader(row(CELL, BARE)), ("beyond", (GREAT,))), True)
        self.assertIs(accepts(Reader(row(CELL, BARE)), ("beyond", (GREAT + 1,))), False)
        self.assertIs(accepts(Reader(fill(row(CELL, BARE))), ("beyond", (1,) * 9999)), True)
        self.assertIs(accepts(Reader(fill(row(BARE, BARE))), ("beyond", (1,) * 10001)), False)
        self.assertIs(accepts(Reader(fill(CELL)), ("beyond", (1,))), False)
        self.assertIs(accepts(Reader(fill(NOTHING)), ("beyond", (1,))), False)
        # A row is no entry, and an entry no row.
        self.assertIs(accepts(reader, ("never", (1,))), False)
        self.assertIs(accepts(Reader(fill(CELL)), ("beyond", ((FULL,),))), False)


def drawn_set(draw):
    """A set without a great start or period."""
    word = draw.randrange(5)
    if word == 0:
        return draw.choice((NONE, FULL))
    if word == 1:
        return FROM(draw.randrange(6))
    if word == 2:
        return ONLY(*[draw.randrange(8) for one in range(3)])
    period = draw.randrange(1, 5)
    repeated = LengthSet((), 0, period, [rest for rest in range(period) if draw.random() < 0.5])
    return repeated if word == 3 else repeated - ONLY(draw.randrange(4))


def near_set(draw, lengths):
    """The set, a greater one, a smaller one or another one."""
    return draw.choice((lengths | drawn_set(draw), lengths - drawn_set(draw), lengths | ONLY(draw.randrange(5)),
                        lengths - ONLY(draw.randrange(5)), drawn_set(draw)))


def near_entries(draw, entries):
    """Entries of a paper with some of them changed, doubled, left out or put elsewhere."""
    found = list(entries)
    for time in range(draw.choice((1, 1, 1, 2, 3))):
        if not found:
            return (drawn_set(draw),)
        index = draw.randrange(len(found))
        word = draw.randrange(9)
        if word == 0:
            del found[index]
        elif word == 1:
            found.insert(index, found[draw.randrange(len(found))])
        elif word == 2:
            found.append(found.pop(index))
        elif isinstance(found[index], tuple):
            place = draw.randrange(len(found[index]))
            one = near_set(draw, found[index][place])
            found[index] = found[index][:place] + (one,) + found[index][place + 1:]
        else:
            found[index] = near_set(draw, found[index])
    return tuple(found)


class Drawn(unittest.TestCase):
    def test_what_is_accepted_fits_and_the_reader_never_looks_beyond(self):
        draw = random.Random(121)
        rows = [cells for length in range(4) for cells in all_rows(length, range(4))]
        answers = []
        for reader in drawn_readers(122, 200, 5, 10, 24) + well_checked_readers(123, 300):
            word, entries = paper_of(reader)
            if word == "beyond":
                other = without(reader, *sites(reader)[::2])
                self.assertFalse(verdict_of(other))
                continue
            for one in [entries] + [near_entries(draw, entries) for time in range(6)]:
                answer = accepts(reader, ("never", one))
                self.assertEqual(answer, fits(reader.part, one), (reader.part, one))
                answers.append(answer and one != entries)
            self.assertTrue(verdict_of(reader))
            for cells in rows[::5]:
                self.assertNotEqual(reader(cells).kind, "beyond")
        self.assertGreater(min(answers.count(True), answers.count(False)), 100)

    def test_papers_of_other_readers(self):
        """Papers of readers with other checks: what is right with fewer checks is right with more."""
        draw = random.Random(124)
        many = {True: 0, False: 0}
        for reader in well_checked_readers(125, 300):
            paper = paper_of(reader)
            for check in sites(reader):
                if draw.random() < 0.4:
                    other = without(reader, check)
                    if accepts(other, paper):
                        self.assertIs(paper[0] == "never", bool(verdict_of(other)), (reader.part, check))
                    fewer = paper_of(other)
                    if fewer[0] == "never":
                        self.assertTrue(accepts(reader, fewer), (reader.part, check))
                    many[accepts(other, paper)] += 1
        self.assertGreater(min(many.values()), 100)

    def test_never_too_large(self):
        draw = random.Random(126)
        start = time.monotonic()
        wide = [LengthSet(sorted(draw.sample(range(100), 20)), 100, period, sorted(draw.sample(range(period), 4)))
                for period in (5, 7, 8, 9)] + [LengthSet((), 100, 9, (0,)), FULL, LengthSet((99,), 100, 7, (0,))]
        for reader in large_readers(127, 40) + well_checked_readers(128, 60, large=True):
            word, entries = paper_of(reader)
            if word == "never":
                self.assertTrue(accepts(reader, (word, entries)))
                for time_number in range(4):
                    other = [tuple(one | draw.choice(wide) for one in entry) if isinstance(entry, tuple)
                             else entry | draw.choice(wide) for entry in entries]
                    self.assertIn(accepts(reader, ("never", tuple(other))), (True, False))
        reader = Reader(row(fill(CELL), choice(*[counted(NOTHING)] * 6), counted(NOTHING)))
        entries = tuple((one,) for one in wide[:6])
        self.assertTrue(accepts(reader, ("never", ((FULL,),) + entries + ((FULL,),))))
        self.assertLess(time.monotonic() - start, 60)

    def test_too_large(self):
        reader = Reader(row(fill(CELL), choice(counted(NOTHING), counted(NOTHING))))
        right = ("never", ((FULL,), (NONE,), (NONE,)))
        self.assertTrue(accepts(reader, right))
        paper = ("never", ((FULL,), (LengthSet((), 0, 71, (0,)),), (LengthSet((), 0, 73, (0,)),)))
        for call in (accepts, Claim, claim_of):
            with self.assertRaises(TooLarge):
                call(reader, paper)
        part = CELL
        for turn in range(6):
            part = counted(part, most=9)
        with self.assertRaises(TooLarge):
            accepts(Reader(part), ("never", ()))


class Claims(unittest.TestCase):
    def test_claims(self):
        for part in (CELL, BARE, fill(CELL), row(CELL, BARE), within(fill(times(2, CELL)), rest="exact")):
            reader = Reader(part)
            paper = paper_of(reader)
            for claim in (Claim(reader, paper), claim_of(reader, paper), claim_of(paper=paper, reader=reader),
                          Claim(paper=paper, reader=reader)):
                self.assertIsInstance(claim, Claim)
                self.assertEqual(claim.word, paper[0])
                self.assertIs(claim(reader), True)
                self.assertIs(claim(Reader(part)), True)
                self.assertIs(claim(other=Reader(row(part))), False)
                self.assertIs(claim(Reader(NOTHING)), False)
                for thing in strange_objects() + [part, paper, claim]:
                    self.assertIs(claim(thing), False)

    def test_no_right_paper(self):
        reader = Reader(fill(CELL))
        for paper in (("never", ()), ("never", ((FROM(1),),)), ("beyond", ()), ("beyond", (1,)), None, (), "never",
                      ["never", ((FULL,),)], ("never", ((FULL,),), ())):
            with self.assertRaises(NoPaper):
                Claim(reader, paper)
            with self.assertRaises(NoWord) as caught:
                claim_of(reader, paper)
            self.assertEqual(caught.exception.value, "paper")
            self.assertIs(type(caught.exception.__cause__), NoPaper)
            self.assertIsInstance(caught.exception.__cause__, LimitError)
        self.assertEqual(claim_of(reader, ("never", ((FULL,),))).word, "never")

    def test_no_readers(self):
        for thing in strange_objects() + [CELL]:
            for call in (accepts, Claim, claim_of):
                for paper in (("never", ()), None):
                    with self.assertRaises(NoWord) as caught:
                        call(thing, paper)
                    self.assertIs(caught.exception.value, thing)
                    self.assertIsNone(caught.exception.__cause__)


if __name__ == "__main__":
    unittest.main()
