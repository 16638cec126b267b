import random
import time
import unittest

from drawn import all_rows, checked_part, drawn_part, large_readers, limits_in_one_another, spread
from lazy import Chooser, readings
from made import BARE, CELL, GREAT, NOTHING, ONE, choice, counted, fill, if_left, pad, row, times, within
from strange import strange_objects
from withinlimits.alike import are_alike, differs, parted, union_of
from withinlimits.errors import NoRow, NoWord, TooLarge
from withinlimits.parts import (
    MANNER_AT, counted_parts, is_part, part_at, parts_of, replaced, size_of, subparts, with_field, with_parts)
from withinlimits.reading import Reader
from withinlimits.sites import is_same_format, sites, without


def need(many):
    return ("need", many)


def with_drawn_checks(draw, part, great):
    """A part of the same format with drawn checks, the numbers of which are great or small."""
    inner = [with_drawn_checks(draw, one, great) for one in parts_of(part)]
    part = with_parts(part, inner) if inner else part
    if part == NOTHING or part[0] == "need":
        return draw.choice((NOTHING, need(draw.randrange(1, 10 if great else 4))))
    if part[0] in MANNER_AT:
        part = with_field(part, MANNER_AT[part[0]], draw.choice(("checked", "checked", "bare")))
    if part[0] == "counted" and size_of(part[4]) is not None:
        part = with_field(part, 3, draw.choice((None, None, 0, 1, draw.randrange(10 if great else 3))))
    return part


def with_one_other_check(draw, part):
    """The part with the checks of one in it drawn anew."""
    path, one = draw.choice(subparts(part))
    other = with_drawn_checks(draw, one, False)
    inner = parts_of(one)
    return replaced(part, path, with_parts(other, inner) if inner else other)


def with_drawn_needs(draw, part):
    """A part of the same format with the same looks, and drawn needs and aheads."""
    inner = [with_drawn_needs(draw, one) for one in parts_of(part)]
    part = with_parts(part, inner) if inner else part
    if part == NOTHING:
        return draw.choice((NOTHING, NOTHING, need(1), need(2), need(3)))
    if part[0] == "counted" and size_of(part[4]) is not None:
        return with_field(part, 3, draw.choice((None, None, 0, 1, 2)))
    return part


def drawn_pairs(seed, many, great=False, **most):
    """Pairs of readers of one format."""
    draw = random.Random(seed)
    pairs = []
    while len(pairs) < many:
        part = drawn_part(draw, draw.randrange(1, 6))
        if not is_part(part) or len(subparts(part)) > 10 or counted_parts(part) > 25:
            continue
        one = with_drawn_checks(draw, part, great)
        other = with_drawn_checks(draw, part, great) if draw.random() < 0.4 else with_one_other_check(draw, one)
        if one != other and is_part(one) and is_part(other):
            pairs.append((Reader(one), Reader(other)))
    return pairs


# Two parts of one format, how many cells a shortest row has with which they are parted by places, and without.
KNOWN = (
    (CELL, CELL, None, None),
    (BARE, BARE, None, None),
    (CELL, BARE, 0, 0),
    (row(CELL, CELL), row(CELL, BARE), 1, 1),
    (row(need(2), CELL, CELL), row(NOTHING, CELL, CELL), 1, None),
    (row(need(1), CELL, CELL), row(NOTHING, CELL, CELL), None, None),
    (row(need(2), ONE, CELL), row(NOTHING, ONE, CELL), 1, None),
    (row(need(3), CELL), row(need(2), CELL), 2, 2),
    (row(need(3), CELL, need(2)), row(need(2), CELL, need(2)), 2, None),
    (row(need(1), BARE), row(NOTHING, CELL), None, None),
    (row(need(1), CELL), row(NOTHING, BARE), 0, 0),
    (row(need(1), BARE), row(NOTHING, BARE), 0, 0),
    (row(need(9), NOTHING), row(need(8), need(9)), None, None),
    (row(need(9), CELL), row(need(8), CELL), 8, 8),
    (row(need(2), fill(CELL)), row(NOTHING, fill(CELL)), 0, 0),
    (row(CELL, need(2), fill(NOTHING)), row(CELL, NOTHING, fill(NOTHING)), 1, 1),
    (row(need(2), fill(NOTHING)), row(need(3), fill(NOTHING)), 2, 2),
    (fill(need(2)), fill(NOTHING), 1, 1),
    (fill(row(CELL, CELL)), fill(row(CELL, BARE)), 1, 1),
    (fill(row(need(2), CELL, CELL)), fill(row(NOTHING, CELL, CELL)), 1, None),
    (choice(CELL, BARE), choice(BARE, BARE), 1, 1),
    (choice(CELL, NOTHING), choice(BARE, need(2)), 1, 1),
    (choice(CELL, NOTHING), choice(CELL, NOTHING, manner="bare"), 0, 0),
    (times(3, row(CELL, NOTHING)), times(3, row(CELL, need(1))), 3, 3),
    (times(3, CELL), times(3, BARE), 0, 0),
    (times(0, CELL), times(0, BARE), None, None),
    (if_left(CELL), if_left(BARE), None, None),
    (if_left(row(CELL, CELL)), if_left(row(CELL, BARE)), 1, 1),
    (row(need(2), if_left(CELL)), row(need(1), if_left(BARE)), 1, 1),
    (pad(2), pad(2, "bare"), None, None),
    (row(CELL, pad(2)), row(CELL, pad(2, "bare")), 1, 1),
    (row(CELL, pad(3)), row(BARE, pad(3)), 0, 0),
    (row(need(3), CELL, pad(3)), row(need(3), CELL, pad(3, "bare")), None, None),
    # What is asked for ahead of the turns.
    (counted(CELL, ahead=0), counted(CELL), 2, None),
    (counted(row(CELL, CELL), ahead=0), counted(row(CELL, CELL)), 2, None),
    (counted(ONE, ahead=0), counted(ONE), 2, None),
    (counted(BARE, ahead=0), counted(BARE), 1, 1),
    (counted(NOTHING, ahead=0), counted(NOTHING), None, None),
    (counted(NOTHING, ahead=1), counted(NOTHING), 1, 1),
    (counted(NOTHING, ahead=9), counted(NOTHING, ahead=8), 9, 9),
    (counted(CELL, ahead=9), counted(CELL, ahead=8), 9, 9),
    (counted(CELL, most=0, ahead=9), counted(CELL, most=0, ahead=8), 9, 9),
    (counted(CELL, most=0, ahead=2), counted(CELL, most=0), 1, 1),
    (counted(row(CELL, CELL), ahead=9), counted(row(CELL, CELL), ahead=7), 8, 8),
    (row(counted(CELL, ahead=2), CELL, CELL), row(counted(CELL), CELL, CELL), 2, None),
    (row(counted(CELL, ahead=2), CELL, BARE), row(counted(CELL), CELL, BARE), 2, 2),
    (row(counted(CELL, ahead=2), BARE), row(counted(CELL, ahead=1), BARE), 2, 2),
    (row(counted(CELL, ahead=9), need(9)), row(counted(CELL, ahead=3), need(9)), 5, None),
    (row(need(9), counted(times(6, CELL), ahead=3)), row(need(9), counted(times(6, CELL), ahead=2)), 9, 9),
    (row(need(9), need(9), counted(times(5, CELL), most=1, ahead=5), CELL),
     row(need(9), need(9), counted(times(5, CELL), most=1, ahead=4), CELL), 10, 10),
    (row(need(9), CELL, CELL, counted(times(3, CELL), ahead=9), times(6, CELL), CELL, CELL, CELL),
     row(need(9), CELL, CELL, counted(times(3, CELL), ahead=7), times(6, CELL), CELL, CELL, CELL), 10, None),
    (row(counted(times(4, CELL), ahead=6), times(6, BARE)), row(counted(times(4, CELL), ahead=7), times(6, BARE)), 7, 7),
    (row(counted(CELL, ahead=1), counted(need(3))), row(counted(CELL), counted(need(3))), 2, None),
    (row(need(3), counted(need(2), ahead=2)), row(need(3), counted(need(3), ahead=0)), 3, 3),
    (row(need(3), counted(need(4), ahead=2)), row(need(3), counted(need(3), ahead=0)), 4, 4),
    (counted(counted(CELL, most=1), most=1), counted(counted(BARE, most=1), most=1), 2, 2),
    (counted(row(CELL, NOTHING), most=2), counted(row(CELL, need(1)), most=2), 2, 2),
    # In limits their ends count, not the row.
    (within(CELL), within(BARE), 1, 1),
    (within(CELL, most=0), within(BARE, most=0), 1, 1),
    (row(need(2), within(CELL)), row(need(2), within(CELL, manner="bare")), None, None),
    (row(NOTHING, within(CELL)), row(NOTHING, within(CELL, manner="bare")), 0, 0),
    (within(row(need(2), CELL)), within(row(NOTHING, CELL)), 2, 2),
    (within(row(need(2), CELL, CELL)), within(row(NOTHING, CELL, CELL)), 2, None),
    (within(row(need(2), fill(CELL))), within(row(NOTHING, fill(CELL))), 1, 1),
    (within(row(need(2), CELL), rest="exact"), within(row(NOTHING, CELL), rest="exact"), 2, 2),
    (within(row(need(2), CELL), most=1), within(row(NOTHING, CELL), most=1), 2, 2),
    (within(row(need(2), NOTHING), most=1), within(row(need(3), NOTHING), most=1), None, None),
    (within(row(need(2), NOTHING), most=2), within(row(need(3), NOTHING), most=2), 3, 3),
    (within(row(need(2), NOTHING), rest="exact"), within(row(NOTHING, NOTHING), rest="exact"), 1, 1),
    (within(row(CELL, need(1)), rest="exact"), within(row(CELL, NOTHING), rest="exact"), 2, 2),
    (row(within(row(CELL, need(1)), rest="exact"), need(1)), row(within(row(CELL, NOTHING), rest="exact"), need(1)), 3, 3),
    (within(fill(CELL), "told"), within(fill(BARE), "told"), None, None),
    (within(CELL, "told"), within(BARE, "told"), 1, 1),
    (within(row(CELL, CELL), "told"), within(row(CELL, BARE), "told"), 2, 2),
    (within(row(CELL, CELL), "cut"), within(row(CELL, BARE), "cut"), 2, 2),
    (within(within(need(2)), rest="exact"), within(within(need(1)), rest="exact"), 3, 3),
    (within(within(row(need(2), CELL, CELL)), "cut"), within(within(row(NOTHING, CELL, CELL)), "cut"), 3, None),
    (row(within(need(1), "cut"), need(9)), row(within(NOTHING, "cut"), need(9)), 10, 10),
    (row(within(row(CELL, need(9)), "cut"), need(8)), row(within(row(CELL, need(8)), "cut"), need(8)), 10, 18),
    (row(within(NOTHING), pad(3), need(4)), row(within(NOTHING), pad(3, "bare"), need(4)), 1, 1),
    (fill(within(fill(row(CELL, need(1))))), fill(within(fill(row(CELL, NOTHING)))), 2, 2),
    # Cells are left over in a limit whose checks differ, though in it both read alike.
    (row(within(row(need(2), need(1))), need(1)), row(within(row(need(2), need(2))), need(2)), 4, 4),
    (row(within(row(need(3), need(1)), "cut"), need(3)), row(within(row(need(3), NOTHING), "cut"), need(2)), 6, 6),
    # Behind many cells.
    (row(times(6, times(6, CELL)), times(6, CELL), CELL), row(times(6, times(6, CELL)), times(6, CELL), BARE), 42, 42),
    # One of the readers goes on alone behind a limit, and may be refused there as the other was in it.
    (row(within(row(NOTHING, CELL)), need(1)), row(within(row(need(2), CELL)), NOTHING), 2, 3),
    (row(within(row(NOTHING, CELL)), need(3)), row(within(row(need(2), CELL)), need(1)), 2, 4),
    (row(within(need(2)), CELL, need(2)), row(within(need(1)), CELL, NOTHING), 2, 3),
)


class Known(unittest.TestCase):
    def test_known(self):
        for one, other, by_places, by_kinds in KNOWN:
            for pair in ((Reader(one), Reader(other)), (Reader(other), Reader(one))):
                self.check(pair, True, by_places)
                self.check(pair, False, by_kinds)

    def check(self, pair, places, wanted):
        cells = parted(*pair, places=places)
        parts = [reader.part for reader in pair]
        self.assertEqual(None if cells is None else len(cells), wanted, (parts, places))
        self.assertIs(are_alike(*pair, places=places), wanted is None)
        if places:
            self.assertEqual(parted(*pair), cells)
            self.assertIs(are_alike(*pair), wanted is None)
        if cells is not None:
            self.assertIsInstance(cells, list)
            self.assertIs(differs(*pair, cells, places=places), True, (parts, cells))
            self.assertTrue(all(0 <= cell <= GREAT for cell in cells))
            again = parted(*pair, places=places)
            self.assertEqual(again, cells)
            again.append(1)
            self.assertEqual(parted(*pair, places=places), cells)

    def test_behind_many_cells(self):
        for tens in range(1, 7):
            for many in range(10):
                ahead = row(times(tens, row(*[CELL] * 10)), *[CELL] * many)
                parts = row(ahead, CELL), row(ahead, BARE)
                self.check([Reader(part) for part in parts], False, 10 * tens + many)
                self.check([Reader(within(part)) for part in parts], False, 10 * tens + many + 1)

    def test_the_example(self):
        one, other = Reader(row(need(2), CELL, CELL)), Reader(row(NOTHING, CELL, CELL))
        self.assertEqual([len(parted(one, other)), parted(one, other, places=False)], [1, None])

    def test_by_name(self):
        one, other = Reader(row(need(2), CELL, CELL)), Reader(row(NOTHING, CELL, CELL))
        self.assertEqual(len(parted(other=other, places=True, reader=one)), 1)
        self.assertIs(are_alike(places=False, other=other, reader=one), True)
        self.assertIs(differs(places=False, row=[1], other=other, reader=one), False)
        self.assertIs(differs(row=[1], other=other, reader=one), True)
        self.assertEqual(union_of(other=other, reader=one), one)
        for call in (lambda: parted(one, other, False), lambda: are_alike(one, other, False),
                     lambda: differs(one, other, [], False)):
            with self.assertRaises(TypeError):
                call()


class Differs(unittest.TestCase):
    def test_kinds_places_and_reasons(self):
        cell = row(CELL, CELL)
        for one, other, cells, by_places, by_kinds in (
                (cell, row(CELL, BARE), [1], True, True), (cell, row(CELL, BARE), [1, 1], False, False),
                (row(need(2), CELL), row(NOTHING, ONE), [0, 0], True, True),
                (row(need(2), CELL, CELL), row(NOTHING, CELL, CELL), [0], True, False),
                # The same place, but another reason.
                (row(CELL, need(1)), row(ONE, need(1)), [], False, False),
                (row(ONE, CELL), row(CELL, CELL), [0], True, False), (ONE, need(3), [0], True, False),
                (CELL, row(CELL, CELL), [0, 0], True, False), (BARE, row(NOTHING, BARE), [], False, False),
                # Looks, turns and numbers do not matter.
                (times(2, CELL), row(CELL, CELL), [0, 0], False, False), (counted(NOTHING), CELL, [3], False, False),
                (within(NOTHING), within(CELL), [1, 0], False, False)):
            for pair in ((one, other), (other, one)):
                pair = [Reader(part) for part in pair]
                self.assertIs(differs(*pair, cells), by_places, (one, other))
                self.assertIs(differs(*pair, cells, places=True), by_places)
                self.assertIs(differs(*pair, cells, places=False), by_kinds)

    def test_no_rows(self):
        for cells in ((1,), None, [True], [0, -1], "1"):
            with self.assertRaises(NoRow):
                differs(Reader(CELL), Reader(BARE), cells)

    def test_short_rows(self):
        rows = [cells for length in range(4) for cells in all_rows(length, range(3))]
        for one, other in drawn_pairs(131, 60):
            for cells in rows:
                mine, yours = one(cells), other(cells)
                self.assertEqual(differs(one, other, cells, places=False), mine.kind != yours.kind)
                self.assertEqual(differs(one, other, cells),
                                 (mine.kind, mine.at, mine.why) != (yours.kind, yours.at, yours.why))


class Drawn(unittest.TestCase):
    def least_differences(self, one, other, longest, most):
        """The least lengths of rows that part two readers, by places and by kinds, and up to which it is known."""
        choosers = [Chooser(one.part), Chooser(other.part)]
        least = {True: None, False: None}
        for length in range(longest):
            found = readings(choosers, length, most)
            if found is None:
                return least, length
            for chosen, (mine, yours) in found:
                if mine.kind != yours.kind:
                    least[False] = length if least[False] is None else least[False]
                if (mine.kind, mine.at, mine.why) != (yours.kind, yours.at, yours.why):
                    least[True] = length if least[True] is None else least[True]
            if None not in least.values():
                break
        return least, longest

    def check(self, pairs, longest, most=300):
        seen = []
        for one, other in pairs:
            least, known = self.least_differences(one, other, longest, most)
            for places in (True, False):
                cells = parted(one, other, places=places)
                turned = parted(other, one, places=places)
                told = (one.part, other.part, places)
                self.assertEqual(cells is None, turned is None, told)
                self.assertIs(are_alike(one, other, places=places), cells is None)
                if least[places] is not None:
                    self.assertIsNotNone(cells, told)
                if cells is not None:
                    self.assertEqual(len(cells), len(turned))
                    for found in (cells, turned):
                        self.assertTrue(differs(one, other, found, places=places), told)
                    if least[places] is None:
                        self.assertGreaterEqual(len(cells), known, told)
                    else:
                        self.assertEqual(len(cells), least[places], told)
                seen.append(None if cells is None else len(cells))
        return seen

    def test_short_rows(self):
        seen = self.check(drawn_pairs(132, 700), 10)
        self.assertGreater(seen.count(None), 100)
        self.assertGreater(len(set(seen)), 6)

    def test_great_numbers(self):
        """Needs and aheads of up to nine, which only rows of many cells tell apart."""
        draw = random.Random(133)
        pairs = []
        inner = (CELL, BARE, ONE, times(2, CELL), row(CELL, NOTHING), NOTHING, choice(CELL, BARE), times(3, CELL))
        behind = (NOTHING, CELL, BARE, need(9), fill(CELL), pad(3), times(6, CELL), within(CELL), counted(CELL))
        while len(pairs) < 250:
            part = row(NOTHING, counted(draw.choice(inner), draw.choice((None, 0, 1, 3))), draw.choice(behind))
            if draw.random() < 0.5:
                part = within(part, draw.choice(("nested", "cut")), draw.choice(("skip", "exact")))
            one = with_drawn_checks(draw, part, True)
            path = draw.choice([path for path, found in subparts(part) if found[0] == "counted" and
                                size_of(found[4]) is not None])
            ahead = part_at(one, path)[3]
            other = with_field(part_at(one, path), 3, draw.choice((None, 9, 8, 7, 5 if ahead is None else (ahead + 1) % 10)))
            other = replaced(one, path, other)
            if is_part(one) and is_part(other) and one != other:
                pairs.append((Reader(one), Reader(other)))
        seen = self.check(pairs, 14, 400)
        self.assertGreater(sum(1 for length in seen if length is not None and length >= 10), 3)

    def test_needs_in_limits_and_behind_them(self):
        """Readers one of which is refused in a limit, while the other goes on and may be refused behind it."""
        draw = random.Random(138)
        inner = (row(NOTHING, CELL), row(CELL, NOTHING), row(NOTHING, CELL, CELL), NOTHING, CELL, counted(CELL),
                 fill(row(CELL, NOTHING)), row(NOTHING, fill(CELL)), choice(CELL, NOTHING), counted(NOTHING, 1),
                 if_left(row(CELL, CELL)), row(CELL, pad(2)))
        outer = (NOTHING, CELL, row(NOTHING, CELL), row(CELL, NOTHING), fill(row(NOTHING, CELL)), pad(2),
                 if_left(row(NOTHING, CELL)), counted(CELL), within(row(NOTHING, CELL)), row(fill(CELL), NOTHING),
                 counted(NOTHING))
        pairs = []
        while len(pairs) < 160:
            limited = within(draw.choice(inner), draw.choice(("nested", "cut", "told")), draw.choice(("skip", "exact")),
                             draw.choice((None, None, 1, 2)))
            ahead = draw.choice((NOTHING, NOTHING, NOTHING, draw.choice(outer)))
            part = row(ahead, limited, draw.choice(outer), NOTHING)
            if draw.random() < 0.3:
                part = within(part, draw.choice(("nested", "cut")), draw.choice(("skip", "exact")))
            part = checked_part(draw, part, draw.choice((0, 0, 20)))
            one, other = with_drawn_needs(draw, part), with_drawn_needs(draw, part)
            if is_part(one) and is_part(other) and one != other:
                pairs.append((Reader(one), Reader(other)))
        seen = self.check(pairs, 9, 400)
        self.assertGreater(seen.count(None), 50)
        self.assertGreater(len(set(seen)), 6)

    def test_none_of_any_length(self):
        """Readers whose checks differ, though no row tells them apart."""
        many = 0
        for one, other in drawn_pairs(134, 250):
            both = union_of(one, other)
            if are_alike(one, other):
                many += 1
                self.assertTrue(are_alike(one, both))
                self.assertTrue(are_alike(both, other, places=False))
            elif are_alike(one, both):
                self.assertFalse(are_alike(other, both))
        self.assertGreater(many, 30)

    def test_equal_readers(self):
        for one, other in drawn_pairs(135, 50):
            for reader in (one, other):
                self.assertIsNone(parted(reader, Reader(reader.part)))
                self.assertTrue(are_alike(reader, reader, places=False))
                self.assertEqual(union_of(reader, reader), reader)

    def test_as_large_as_may_be(self):
        start = time.monotonic()
        draw = random.Random(136)
        for reader in large_readers(137, 60):
            one = with_drawn_checks(draw, reader.part, True)
            other = with_drawn_checks(draw, one, True) if draw.random() < 0.3 else with_one_other_check(draw, one)
            if not all(is_part(part) and spread(part) <= 54 and limits_in_one_another(part) <= 2 for part in (one, other)):
                continue
            one, other = Reader(one), Reader(other)
            for places in (True, False):
                cells = parted(one, other, places=places)
                if cells is not None:
                    self.assertTrue(differs(one, other, cells, places=places))
        # Loops in loops, whose lengths sum up late.
        inner = row(fill(times(4, CELL)), fill(pad(4)))
        part = fill(fill(fill(choice(inner, times(6, times(5, CELL))))))
        for check in sites(Reader(part)):
            parted(Reader(part), without(Reader(part), check), places=False)
        self.assertLess(time.monotonic() - start, 60)


class Union(unittest.TestCase):
    def test_known(self):
        for one, other, both in (
                (CELL, BARE, CELL), (BARE, BARE, BARE), (CELL, CELL, CELL), (need(2), NOTHING, need(2)),
                (need(2), need(9), need(9)), (NOTHING, NOTHING, NOTHING), (pad(3), pad(3, "bare"), pad(3)),
                (row(NOTHING, BARE, CELL), row(need(4), CELL, BARE), row(need(4), CELL, CELL)),
                (counted(CELL), counted(BARE, ahead=0), counted(CELL, ahead=0)),
                (counted(CELL, 3, 5), counted(CELL, 3, 7, "bare"), counted(CELL, 3, 7)),
                (counted(CELL, 3, 9, "bare"), counted(CELL, 3, 0, "bare"), counted(CELL, 3, 9, "bare")),
                (within(BARE, "cut", "exact", 3), within(CELL, "cut", "exact", 3, "bare"), within(CELL, "cut", "exact", 3)),
                (choice(CELL, need(3), manner="bare"), choice(BARE, NOTHING), choice(CELL, need(3))),
                (times(2, fill(if_left(BARE))), times(2, fill(if_left(CELL))), times(2, fill(if_left(CELL)))),
                (("cell", 2, 5, "bare"), ("cell", 2, 5, "checked"), ("cell", 2, 5, "checked"))):
            self.assertEqual(union_of(Reader(one), Reader(other)), Reader(both))
            self.assertEqual(union_of(Reader(other), Reader(one)), Reader(both))

    def test_its_outcomes_are_those_of_one_of_both(self):
        rows = [cells for length in range(5) for cells in all_rows(length, range(3))]
        for one, other in drawn_pairs(138, 150) + drawn_pairs(139, 50, True):
            both = union_of(one, other)
            self.assertTrue(is_same_format(one, both))
            self.assertEqual(set(sites(both)), set(sites(one)) | set(sites(other)))
            for cells in rows:
                self.assertIn(both(cells).told(), (one(cells).told(), other(cells).told()), (one.part, other.part, cells))


class Words(unittest.TestCase):
    def refuses(self, value, *pair):
        for call in (parted, are_alike, union_of):
            with self.assertRaises(NoWord) as caught:
                call(*pair)
            self.assertIs(caught.exception.value, value)

    def test_no_readers(self):
        reader = Reader(CELL)
        for thing in strange_objects() + [CELL, BARE]:
            self.refuses(thing, thing, reader)
            self.refuses(thing, reader, thing)
            self.refuses(thing, thing, None)
            self.refuses(thing, thing, Reader(NOTHING))

    def test_other_formats(self):
        for one, other in ((CELL, ONE), (CELL, NOTHING), (need(1), row(need(1))), (counted(CELL), counted(CELL, 3)),
                           (pad(2), pad(3)), (within(CELL), within(CELL, "cut"))):
            for pair in ((Reader(one), Reader(other)), (Reader(other), Reader(one))):
                self.refuses(pair[1], *pair)

    def test_too_large(self):
        part = CELL
        for turn in range(6):
            part = counted(part, most=9)
        one, other = Reader(part), Reader(with_field(part, 1, "bare"))
        for call in (parted, are_alike):
            with self.assertRaises(TooLarge):
                call(one, other)
        self.assertEqual(union_of(one, other), one)


if __name__ == "__main__":
    unittest.main()
