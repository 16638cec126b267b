import unittest

from drawn import KINDS, all_rows, drawn_readers, large_readers
from made import BARE, CELL, GREAT, NOTHING, ONE, choice, counted, fill, if_left, row, times, within
from strange import strange_objects
from withinlimits.errors import NoWord, TooLarge
from withinlimits.lengths import example
from withinlimits.reading import Reader
from withinlimits.work import idle_of, most_work


# Parts, and their greatest work for the lengths from 0 on.
KNOWN = (
    (NOTHING, (0, 0, 0)),
    (CELL, (0, 1, 1)),
    (ONE, (0, 1, 1)),
    (row(BARE, CELL), (0, 1, 2, 2)),
    (times(3, CELL), (1, 3, 5, 6, 6)),
    (times(3, times(2, NOTHING)), (9, 9)),
    (choice(NOTHING, times(3, NOTHING)), (0, 4, 4)),
    (("need", 2), (0, 0, 0)),
    (row(("need", 2), times(2, NOTHING)), (0, 0, 2)),
    (fill(CELL), (0, 2, 4, 6)),
    (fill(times(2, CELL)), (0, 4, 5, 9, 10)),
    (fill(NOTHING), (0, 1, 1)),
    (fill(times(3, ("need", 1))), (0, 4, 4)),
    (fill(times(2, times(3, NOTHING))), (0, 9, 9)),
    (fill(row(times(2, NOTHING), if_left(times(3, NOTHING)), ("need", 1))), (0, 6)),
    (fill(row(if_left(row(NOTHING, times(2, ("need", 2)))))), (0, 2, 3)),
    (if_left(times(2, NOTHING)), (0, 2)),
    # The turn in which the reading stops counts.
    (counted(CELL), (0, 2, 4, 6)),
    (counted(CELL, most=2), (0, 2, 4, 5, 5)),
    (counted(BARE, ahead=0), (0, 1, 3, 5)),
    (counted(row(CELL, CELL), ahead=1), (0, 1, 1, 1, 4, 4, 7)),
    (counted(NOTHING, most=7), (0, 8, 8)),
    (counted(times(2, NOTHING), most=7), (0, 22, 22)),
    (counted(NOTHING, most=7, ahead=1), (0, 1, 8)),
    (counted(if_left(CELL), most=3), (0, 4, 5, 6, 7, 7)),
    (counted(NOTHING), (0, None, None)),
    (counted(NOTHING, ahead=2), (0, 1, 1, None)),
    (counted(if_left(CELL)), (0, None, None)),
    (row(CELL, counted(NOTHING)), (0, 1, None)),
    (counted(fill(CELL)), (0, None, None)),
    (counted(("pad", 3, "checked")), (0, 2, 3, None)),
    (row(CELL, ("pad", 3, "checked")), (0, 1, 2, 3, 3)),
    (within(fill(CELL)), (0, 1, 3, 5)),
    (within(fill(CELL), most=1), (0, 1, 3, 3)),
    (row(within(CELL), within(fill(CELL))), (0, 1, 2, 3, 5, 7)),
    (within(times(2, CELL), "nested", "exact"), (0, 2, 4, 5, 5)),
    # Only with the right length no cell is left for the need, so that the turns are reached.
    (row(within(CELL, "nested", "exact"), if_left(("need", 9)), times(5, NOTHING)), (0, 1, 7, 2, 2)),
    (row(within(CELL, "nested", "skip"), if_left(("need", 9)), times(5, NOTHING)), (0, 1, 7, 7, 7)),
    (row(within(within(fill(CELL), "told")), times(5, NOTHING)), (0, 1, 7, 9, 11)),
    (row(within(row(within(fill(CELL)), ("need", 9))), times(5, NOTHING)), (0, 1, 2, 4, 6)),
    # Of a length told beyond the row each turn but the last looks at a cell.
    (within(fill(CELL), "told"), (0, 2, 4, 6)),
    (within(fill(CELL), "told", most=1), (0, 2, 3, 3)),
    (within(fill(NOTHING), "told"), (0, 2, 2)),
    (within(counted(NOTHING), "cut", most=0), (0, 1, 1)),
    (within(counted(NOTHING), "told", most=1), (0, 1, None)),
    (fill(within(counted(NOTHING), most=1)), (0, 2, None)),
    (within(row(CELL, counted(NOTHING)), "told", "exact", most=1), (0, 1, 2, 2)),
)


class MostWork(unittest.TestCase):
    def test_known(self):
        for part, wanted in KNOWN:
            reader = Reader(part)
            self.assertEqual(tuple(most_work(reader, length) for length in range(len(wanted))), wanted, part)
            self.assertEqual(most_work(reader, 60) is None, idle_of(reader) is not None)

    def test_the_example(self):
        reader = Reader(counted(if_left(BARE)))
        self.assertEqual([most_work(reader, 0), most_work(reader=reader, length=1), idle_of(reader=reader)[1]],
                         [0, None, 0])

    def test_sixty_cells(self):
        self.assertEqual(most_work(Reader(fill(CELL)), 60), 120)
        self.assertEqual(most_work(Reader(fill(counted(CELL, most=1))), 60), 121)
        self.assertEqual(most_work(Reader(fill(within(fill(CELL)))), 60), 60 + 1 + 59)
        self.assertEqual(most_work(Reader(fill(fill(CELL))), 60), 60 + 60 + 1)

    def test_all_rows_of_few_cells(self):
        great = 10 ** 9
        rows = {length: all_rows(length, (*range(5), great)) for length in range(4)}
        seen = []
        for reader in drawn_readers(21, 200) + drawn_readers(22, 100, 7, 15, 45):
            for length in rows:
                greatest = max(reader(cells).work for cells in rows[length])
                wanted = None if greatest >= great else greatest
                self.assertEqual(most_work(reader, length), wanted, (reader.part, length))
                seen.append(wanted)
        self.assertIn(None, seen)

    def test_large(self):
        for reader in large_readers(25, 60):
            works = [most_work(reader, length) for length in range(61)]
            idle = idle_of(reader)
            self.assertEqual(None in works, idle is not None and len(idle[0]) <= 60, reader.part)
            for length in (3, 20, 60):
                for kind in KINDS:
                    cells = example(reader, kind, length)
                    if cells is not None and works[length] is not None:
                        self.assertLessEqual(reader(cells).work, works[length])

    def test_no_words(self):
        reader = Reader(CELL)
        for thing in strange_objects():
            for call in (lambda: most_work(thing, -1), lambda: most_work(reader, thing), lambda: idle_of(thing)):
                with self.assertRaises(NoWord) as caught:
                    call()
                self.assertIs(caught.exception.value, thing)
        for length in (-1, 61, GREAT):
            with self.assertRaises(NoWord) as caught:
                most_work(reader, length)
            self.assertEqual(caught.exception.value, length)
        self.assertEqual(most_work(reader, 0), 0)

    def test_too_large(self):
        part = CELL
        for time in range(6):
            part = counted(part, most=9)
        for call in (lambda: most_work(Reader(part), 3), lambda: idle_of(Reader(part))):
            with self.assertRaises(TooLarge):
                call()


class IdleOf(unittest.TestCase):
    def grows(self, reader):
        cells, index = idle_of(reader)
        self.assertIsInstance(cells, list)
        self.assertTrue(0 <= index < len(cells))
        self.assertLessEqual(cells[index], 10 ** 6)
        outcome = reader(cells)
        for number in (0, 1, 2, 3, 10 ** 6, 10 ** 6 + 1, GREAT):
            number = max(number, cells[index])
            other = reader(cells[:index] + [number] + cells[index + 1:])
            self.assertEqual((other.kind, other.at, other.why, other.looks),
                             (outcome.kind, outcome.at, outcome.why, outcome.looks), (reader.part, cells, index))
            self.assertGreaterEqual(other.turns, number)
        for length in range(61):
            if length < len(cells):
                self.assertIsNotNone(most_work(reader, length))
        self.assertIsNone(most_work(reader, len(cells)))

    def test_known(self):
        for part in (counted(NOTHING), counted(NOTHING, ahead=9), counted(if_left(CELL)), counted(times(6, NOTHING)),
                     row(CELL, CELL, counted(("need", 3))), counted(row(CELL, counted(NOTHING))),
                     fill(row(CELL, within(counted(("need", 1)), "nested", "exact"))),
                     within(row(CELL, counted(NOTHING)), "told", "exact"), counted(within(counted(NOTHING))),
                     row(counted(CELL), counted(NOTHING, manner="bare")), choice(CELL, counted(fill(NOTHING))),
                     counted(fill(row(CELL, ("pad", 2, "checked")))), counted(if_left(times(2, ONE)))):
            self.grows(Reader(part))

    def test_none(self):
        for part in (NOTHING, CELL, fill(NOTHING), counted(row(("need", 2), if_left(CELL))), counted(NOTHING, most=9), counted(CELL), times(6, times(6, NOTHING)),
                     counted(("need", 1), most=3), counted(row(NOTHING, CELL), ahead=0), counted(counted(CELL)),
                     times(0, counted(NOTHING)), within(counted(NOTHING), most=0),
                     within(counted(NOTHING), "told", most=0), within(row(CELL, counted(NOTHING)), "nested", most=1),
                     within(row(CELL, counted(NOTHING)), "told", most=1), choice(CELL, counted(NOTHING, most=0)),
                     row(fill(CELL), counted(NOTHING)), fill(counted(CELL, ahead=9))):
            self.assertIsNone(idle_of(Reader(part)), part)

    def test_drawn(self):
        many = 0
        for reader in drawn_readers(23, 400) + drawn_readers(24, 200, 7, 15, 45):
            if idle_of(reader) is None:
                self.assertNotIn(None, [most_work(reader, length) for length in (*range(12), 60)])
            else:
                self.grows(reader)
                many = many + 1
        self.assertGreater(many, 10)


if __name__ == "__main__":
    unittest.main()
