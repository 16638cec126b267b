import itertools
import unittest

from drawn import all_rows, drawn_readers
from made import BARE, CELL, NOTHING, ONE, choice, counted, fill, if_left, pad, row, times, within
from strange import strange_objects
from withinlimits.errors import NoWord, TooLarge
from withinlimits.lengths import verdict_of
from withinlimits.parts import MANNER_AT, part_at, replaced, size_of, subparts
from withinlimits.reading import Reader
from withinlimits.sites import (
    fewest, format_of, hoisted, idle_sites, is_same_format, kept, least_sets, sites, without)

NEED = ("need", 2)

# Parts, their checks in order, and the parts without any check.
KNOWN = (
    (CELL, [((), "look")], BARE),
    (BARE, [], BARE),
    (("cell", 3, 7, "checked"), [((), "look")], ("cell", 3, 7, "bare")),
    (NOTHING, [], NOTHING),
    (row(CELL, BARE, CELL), [((0,), "look"), ((2,), "look")], row(BARE, BARE, BARE)),
    (choice(CELL, BARE), [((), "look"), ((0,), "look")], choice(BARE, BARE, manner="bare")),
    (choice(BARE, CELL, manner="bare"), [((1,), "look")], choice(BARE, BARE, manner="bare")),
    (times(3, CELL), [((0,), "look")], times(3, BARE)),
    (times(0, CELL), [((0,), "look")], times(0, BARE)),
    (counted(CELL), [((), "look"), ((0,), "look")], counted(BARE, manner="bare")),
    (counted(CELL, 5, 0), [((), "look"), ((), "ahead"), ((0,), "look")], counted(BARE, 5, manner="bare")),
    (counted(BARE, None, 9, "bare"), [((), "ahead")], counted(BARE, manner="bare")),
    (within(fill(CELL), "cut", "exact", 7), [((), "look"), ((0, 0), "look")],
     within(fill(BARE), "cut", "exact", 7, "bare")),
    (within(CELL, "told", manner="bare"), [((0,), "look")], within(BARE, "told", manner="bare")),
    (fill(CELL), [((0,), "look")], fill(BARE)),
    (if_left(CELL), [((0,), "look")], if_left(BARE)),
    (NEED, [((), "need")], NOTHING),
    (row(NEED, CELL, ("need", 9)), [((0,), "need"), ((1,), "look"), ((2,), "need")], row(NOTHING, BARE, NOTHING)),
    (pad(4), [((), "look")], pad(4, "bare")),
    (pad(4, "bare"), [], pad(4, "bare")),
    (row(counted(row(NEED, CELL), ahead=1), pad(2)),
     [((0,), "look"), ((0,), "ahead"), ((0, 0, 0), "need"), ((0, 0, 1), "look"), ((1,), "look")],
     row(counted(row(NOTHING, BARE), manner="bare"), pad(2, "bare"))),
)


def parts_of_subsets(reader):
    """Each list of checks of a reader, in order, with the reader that has these alone."""
    checks = sites(reader)
    for many in range(len(checks) + 1):
        for chosen in itertools.combinations(checks, many):
            yield list(chosen), kept(reader, *chosen)


class Sites(unittest.TestCase):
    def test_known(self):
        for part, checks, bare in KNOWN:
            reader = Reader(part)
            self.assertEqual(sites(reader), checks)
            self.assertEqual(format_of(reader), Reader(bare))
            self.assertEqual(without(reader, *checks), Reader(bare))
            self.assertEqual(kept(reader), Reader(bare))
            self.assertEqual(kept(reader, *checks), reader)
            self.assertEqual(without(reader), reader)
            self.assertEqual(reader, Reader(part))

    def test_a_new_list_each_time(self):
        reader = Reader(row(CELL, NEED))
        first = sites(reader)
        self.assertIsInstance(first[0], tuple)
        first.clear()
        self.assertEqual(sites(reader=reader), [((0,), "look"), ((1,), "need")])

    def test_the_order_is_that_of_subparts(self):
        for reader in drawn_readers(101, 200):
            order = [path for path, part in subparts(reader.part)]
            places = [(order.index(path), word == "ahead") for path, word in sites(reader)]
            self.assertEqual(places, sorted(set(places)))

    def test_each_check_alone(self):
        part = row(NEED, counted(row(CELL, NEED), 3, 4), choice(CELL, pad(2)), within(CELL), times(2, ONE))
        reader = Reader(part)
        changes = {
            ((0,), "need"): ((0,), NOTHING), ((1,), "look"): ((1,), counted(row(CELL, NEED), 3, 4, "bare")),
            ((1,), "ahead"): ((1,), counted(row(CELL, NEED), 3)), ((1, 0, 0), "look"): ((1, 0, 0), BARE),
            ((1, 0, 1), "need"): ((1, 0, 1), NOTHING), ((2,), "look"): ((2,), choice(CELL, pad(2), manner="bare")),
            ((2, 0), "look"): ((2, 0), BARE), ((2, 1), "look"): ((2, 1), pad(2, "bare")),
            ((3,), "look"): ((3,), within(CELL, manner="bare")), ((3, 0), "look"): ((3, 0), BARE),
            ((4, 0), "look"): ((4, 0), ("cell", 1, 1, "bare")),
        }
        self.assertEqual(sites(reader), list(changes))
        for check, (path, other) in changes.items():
            self.assertEqual(without(reader, check), Reader(replaced(part, path, other)))
            self.assertEqual(without(reader, check, check), without(reader, check))
            others = [one for one in changes if one != check]
            self.assertEqual(kept(reader, *others), without(reader, check))
            self.assertEqual(kept(reader, check), without(reader, *others))
            self.assertEqual(kept(reader, check, check), kept(reader, check))

    def test_all_paths_stay(self):
        for reader in drawn_readers(102, 200):
            checks = sites(reader)
            for other in (without(reader, *checks[::2]), kept(reader, *checks[::2]), format_of(reader)):
                self.assertEqual([path for path, part in subparts(other.part)],
                                 [path for path, part in subparts(reader.part)])
                self.assertEqual(format_of(other), format_of(reader))
                self.assertEqual(sites(format_of(other)), [])
            self.assertEqual(without(reader, *checks[::2]), kept(reader, *checks[1::2]))
            self.assertEqual(format_of(format_of(reader)), format_of(reader))

    def test_with_fewer_checks_a_reading_is_the_same_up_to_a_refusal(self):
        rows = [cells for length in range(4) for cells in all_rows(length, range(3))]
        for reader in drawn_readers(103, 80):
            other = without(reader, *sites(reader)[1::2])
            for cells in rows:
                if reader(cells).kind != "refused":
                    self.assertEqual(reader(cells), other(cells))


class NoChecks(unittest.TestCase):
    def refuses(self, reader, *checks):
        for call in (without, kept):
            with self.assertRaises(NoWord) as caught:
                call(reader, *checks)
            self.assertIs(caught.exception.value, checks[-1])

    def test_no_checks(self):
        reader = Reader(row(CELL, counted(BARE, ahead=1), NEED, within(CELL, manner="bare"), NOTHING, fill(CELL)))
        right = ((0,), "look")
        wrong = [((), "look"), ((0,), "need"), ((0,), "ahead"), ((1,), "need"), ((1, 0), "look"), ((2,), "look"),
                 ((3,), "look"), ((4,), "need"), ((4,), "look"), ((5,), "look"), ((6,), "look"), ((0, 0), "look"),
                 ((-1,), "look"), [(0,), "look"], ([0], "look"), ((False,), "look"), ((True,), "look"),
                 ((True,), "ahead"), ((True, 0), "look"), ((1, False), "look"), ((3, False), "look"),
                 ((0.0,), "look"), (("0",), "look"), (0, "look"), (None, "look"), ("", "look"), ((0,), "Look"),
                 ((0,), "look "), ((0,), ""), ((0,), None), ((0,), ["look"]), ((0,), ("look",)), ((0,), True),
                 ((0,),), ((0,), "look", 1), ("look", (0,)), ((0,), b"look")]
        wrong += strange_objects() + [((0,), thing) for thing in strange_objects()]
        wrong += [(thing, "look") for thing in strange_objects() if not isinstance(thing, tuple)]
        for thing in wrong:
            self.refuses(reader, thing)
            self.refuses(reader, right, thing)
            self.refuses(reader, right, right, thing)
        for call in (without, kept):
            with self.assertRaises(NoWord) as caught:
                call(reader, right, wrong[3], wrong[4])
            self.assertIs(caught.exception.value, wrong[3])
        self.refuses(Reader(CELL), ((False,), "look"))
        self.refuses(Reader(fill(CELL)), ((False,), "look"))
        self.assertEqual(without(Reader(fill(CELL)), ((0,), "look")), Reader(fill(BARE)))
        # What was left out is a check no more.
        self.refuses(without(reader, right), right)
        self.refuses(without(reader, ((2,), "need")), ((2,), "need"))
        self.refuses(without(reader, ((1,), "ahead")), ((1,), "ahead"))


class SameFormat(unittest.TestCase):
    def test_where_checks_differ(self):
        for one, other in ((CELL, BARE), (NEED, NOTHING), (NEED, ("need", 9)), (NOTHING, NOTHING),
                           (row(NOTHING, CELL), row(NEED, BARE)), (pad(2), pad(2, "bare")),
                           (counted(CELL, 3, 4), counted(CELL, 3, 9, "bare")), (counted(CELL), counted(CELL, None, 0)),
                           (within(NEED, "cut"), within(NOTHING, "cut", manner="bare")),
                           (choice(CELL, NEED), choice(BARE, NOTHING, manner="bare"))):
            for pair in ((one, other), (other, one), (one, one)):
                self.assertIs(is_same_format(*[Reader(part) for part in pair]), True, pair)
        self.assertIs(is_same_format(other=Reader(CELL), reader=Reader(BARE)), True)

    def test_where_more_differs(self):
        for one, other in ((CELL, ONE), (CELL, ("cell", 0, 5, "checked")), (CELL, row(CELL)), (NOTHING, row(NOTHING)),
                           (NEED, row(NEED)), (pad(2), pad(3)), (counted(CELL), counted(CELL, 3)),
                           (within(CELL), within(CELL, "cut")), (within(CELL), within(CELL, rest="exact")),
                           (within(CELL), within(CELL, most=20)), (times(2, CELL), times(3, CELL)),
                           (fill(CELL), if_left(CELL)), (choice(CELL), choice(CELL, CELL)),
                           (choice(CELL), ("choice", "checked", ((1, CELL),))), (row(CELL, NEED), row(CELL))):
            for pair in ((one, other), (other, one)):
                self.assertIs(is_same_format(*[Reader(part) for part in pair]), False, pair)


class LeastSets(unittest.TestCase):
    def test_the_example(self):
        reader = Reader(row(NEED, CELL, CELL))
        self.assertEqual(least_sets(reader=reader), [[((0,), "need")], [((1,), "look"), ((2,), "look")]])
        self.assertEqual(fewest(reader=reader), 1)
        self.assertEqual(idle_sites(reader=reader), sites(reader))

    def test_never_and_always(self):
        for part in (NOTHING, row(NEED, NOTHING), fill(CELL), within(NOTHING, manner="bare")):
            reader = Reader(part)
            enough = verdict_of(format_of(reader))
            self.assertEqual(least_sets(reader) == [[]], bool(enough), part)
            self.assertEqual(fewest(reader) == 0, bool(enough))
        self.assertEqual(least_sets(Reader(row(NEED, fill(CELL)))), [[]])
        self.assertEqual(idle_sites(Reader(row(NEED, fill(CELL)))), [((0,), "need"), ((1, 0), "look")])
        for part in (BARE, row(CELL, BARE), row(("need", 1), BARE, BARE), within(fill(CELL), "told")):
            reader = Reader(part)
            self.assertEqual(least_sets(reader), [])
            self.assertIsNone(fewest(reader))
            self.assertEqual(idle_sites(reader), [])

    def test_the_order_of_the_sets(self):
        reader = Reader(row(("need", 3), CELL, ("need", 2), CELL, ("need", 1), CELL))
        wanted = [[((0,), "need")], [((1,), "look"), ((2,), "need")],
                  [((1,), "look"), ((3,), "look"), ((4,), "need")], [((1,), "look"), ((3,), "look"), ((5,), "look")]]
        self.assertEqual(least_sets(reader), wanted)
        self.assertEqual(idle_sites(reader), sites(reader))

    def test_all_subsets(self):
        seen = {}
        for reader in drawn_readers(104, 400, 4, 8) + drawn_readers(105, 60, 6, 11, 30):
            if len(sites(reader)) > 6:
                continue
            enough = [checks for checks, other in parts_of_subsets(reader) if verdict_of(other)]
            least = [checks for checks in enough
                     if not any(set(one) < set(checks) for one in enough)]
            self.assertEqual(least_sets(reader), least, reader.part)
            self.assertEqual(fewest(reader), len(least[0]) if least else None)
            whole = sites(reader)
            idle = [check for check in whole if [one for one in whole if one != check] in enough]
            self.assertEqual(idle_sites(reader), idle if whole in enough else [], reader.part)
            seen[(len(least), fewest(reader))] = reader
        self.assertGreater(max(many for many, fewest_many in seen), 1)
        self.assertIn((0, None), seen)

    def test_sizes(self):
        many = Reader(row(*[CELL] * 9))
        for call in (least_sets, fewest):
            with self.assertRaises(TooLarge) as caught:
                call(many)
            self.assertEqual(caught.exception.limit, "sites")
        # Also where the reader looks beyond with all of its checks.
        with self.assertRaises(TooLarge) as caught:
            least_sets(Reader(row(BARE, *[CELL] * 9)))
        self.assertEqual(caught.exception.limit, "sites")
        eight = Reader(row(*[CELL] * 8))
        self.assertEqual(least_sets(eight), [sites(eight)])
        self.assertEqual(fewest(eight), 8)
        self.assertEqual(idle_sites(many), [])
        reader = Reader(row(*[CELL] * 9, NEED, fill(CELL)))
        self.assertEqual(idle_sites(reader), [((9,), "need"), ((10, 0), "look")])
        self.assertEqual(idle_sites(Reader(row(*[CELL] * 9, BARE))), [])

    def test_too_large(self):
        part = CELL
        for time in range(6):
            part = counted(part, most=9, manner="bare")
        for call in (least_sets, fewest, idle_sites):
            with self.assertRaises(TooLarge):
                call(Reader(part))


class Hoisted(unittest.TestCase):
    def test_known(self):
        inner = row(CELL, choice(row(CELL, NEED), BARE), times(2, ONE), NEED)
        bare = row(BARE, choice(row(BARE, NEED), BARE, manner="bare"), times(2, ("cell", 1, 1, "bare")), NEED)
        for most in (None, 0, 9):
            for ahead in (None, 0, 7):
                for manner in ("checked", "bare"):
                    part = row(CELL, fill(counted(inner, most, ahead, manner)), NEED, pad(2))
                    if size_of(inner) is None:
                        continue
                    wanted = counted(bare, most, 0 if ahead is None else ahead, manner)
                    self.assertEqual(hoisted(Reader(part), (1, 0)), Reader(replaced(part, (1, 0), wanted)))
        inner = row(CELL, choice(row(ONE, NEED), BARE), times(2, ONE), NEED)
        self.assertEqual(size_of(inner), 5)

    def test_the_part_itself(self):
        self.assertEqual(hoisted(Reader(counted(CELL)), ()), Reader(counted(BARE, ahead=0)))
        self.assertEqual(hoisted(path=(), reader=Reader(counted(BARE, 3, 4))), Reader(counted(BARE, 3, 4)))
        self.assertEqual(hoisted(Reader(counted(NOTHING)), ()), Reader(counted(NOTHING, ahead=0)))
        reader = Reader(counted(CELL))
        hoisted(reader, ())
        self.assertEqual(reader, Reader(counted(CELL)))

    def test_limits(self):
        for limit in ("nested", "cut"):
            part = within(within(counted(CELL), limit), limit)
            self.assertEqual(hoisted(Reader(part), (0, 0)), Reader(within(within(counted(BARE, ahead=0), limit), limit)))
            self.refuses(Reader(within(within(counted(CELL), "told"), limit)), (0, 0))
        # A part beside a told limit, not in one.
        reader = Reader(row(within(CELL, "told"), counted(CELL)))
        self.assertEqual(hoisted(reader, (1,)), Reader(row(within(CELL, "told"), counted(BARE, ahead=0))))

    def refuses(self, reader, path):
        with self.assertRaises(NoWord) as caught:
            hoisted(reader, path)
        self.assertIs(caught.exception.value, path)

    def test_wrong_paths(self):
        reader = Reader(row(counted(CELL), counted(fill(CELL)), CELL, within(counted(CELL), "told"),
                            fill(counted(row(CELL, CELL)))))
        for path in ((), (1,), (2,), (3,), (3, 0), (3, 0, 0), (4,), (0, 0), (5,), (-1,), (0, 0, 0), (False,), (0.0,),
                     (True,), (4, False), [0], [4, 0], "0", 0, None, ((0,),), ("0",)):
            self.refuses(reader, path)
        for thing in strange_objects():
            if not isinstance(thing, tuple):
                self.refuses(Reader(counted(CELL)), thing)
        for path in ((0,), (4, 0)):
            hoisted(reader, path)

    def test_nothing_new_is_read_beyond(self):
        rows = [cells for length in range(5) for cells in all_rows(length, range(4))]
        many = 0
        for reader in drawn_readers(106, 900):
            for path, part in subparts(reader.part):
                if part[0] != "counted" or size_of(part[4]) is None:
                    continue
                told = [part_at(reader.part, path[:deep])[3] for deep in range(len(path))
                        if part_at(reader.part, path[:deep])[0] == "within"]
                if "told" in told:
                    self.refuses(reader, path)
                    continue
                other = hoisted(reader, path)
                inner = part_at(other.part, path)[4]
                self.assertEqual([one for at, one in subparts(inner)
                                  if one[0] in MANNER_AT and one[MANNER_AT[one[0]]] == "checked"], [])
                # Where nothing in the turns was bare, no row is read beyond that was not.
                if verdict_of(reader):
                    many = many + 1
                    self.assertTrue(verdict_of(other), (reader.part, path))
                for cells in rows[::7]:
                    if other(cells).kind == "beyond":
                        self.assertEqual(reader(cells).kind, "beyond", (reader.part, path, cells))
        self.assertGreater(many, 20)


if __name__ == "__main__":
    unittest.main()
