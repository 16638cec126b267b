import unittest

from strange import EqualToAll, strange_objects
from withinlimits.parts import is_part, part_at, replaced, size_of, subparts

MILLION = 10 ** 6
CELL = ("cell", 0, None, "checked")
BARE = ("cell", 0, None, "bare")
NEED = ("need", 1)
FILL = ("fill", CELL)
MANNERS = ("checked", "bare")
WRONG = strange_objects() + ["look", -1, 10 ** 30]


def row(*parts):
    return ("row", parts)


def nested(part, many):
    for time in range(many):
        part = ("row", (part,))
    return part


class IsPart(unittest.TestCase):
    def right(self, *things):
        for thing in things:
            self.assertIs(is_part(thing), True, thing)

    def wrong(self, *things):
        for thing in things:
            self.assertIs(is_part(thing), False)

    def test_fields(self):
        """Each field in turn gets right and wrong values; the other fields stay right."""
        bad_numbers = [one for one in WRONG if one is not None]
        limits, rests = ("nested", "cut", "told"), ("skip", "exact")
        for base, at, right, wrong in (
            (("cell", 3, 9, "bare"), 1, (0, 3, 9), (10, -1, None, *WRONG)),
            (("cell", 3, None, "bare"), 1, (0, MILLION), (MILLION + 1,)),
            (("cell", 3, 9, "bare"), 2, (None, 3, 9, MILLION), (2, 0, MILLION + 1, *bad_numbers)),
            (("cell", 3, 9, "bare"), 3, MANNERS, WRONG),
            (row(), 1, ((), (CELL,) * 12), ((CELL,) * 13, [CELL], (CELL, None), ((),), CELL, None, "", 0)),
            (("choice", "bare", ((0, CELL),)), 1, MANNERS, WRONG),
            (("times", 3, CELL), 1, (0, 6), (7, *WRONG)),
            (("counted", "bare", 3, 3, CELL), 1, MANNERS, WRONG),
            (("counted", "bare", 3, 3, CELL), 2, (None, 0, 9), (10, *bad_numbers)),
            (("counted", "bare", 3, 3, CELL), 3, (None, 0, 9), (10, *bad_numbers)),
            (("within", "bare", 3, "cut", "skip", CELL), 1, MANNERS, WRONG),
            (("within", "bare", 3, "cut", "skip", CELL), 2, (None, 0, 20), (21, *bad_numbers)),
            (("within", "bare", 3, "cut", "skip", CELL), 3, limits, (*rests, *WRONG)),
            (("within", "bare", 3, "cut", "skip", CELL), 4, rests, (*limits, *WRONG)),
            (NEED, 1, (1, 9), (0, 10, *WRONG)),
            (("pad", 3, "bare"), 1, (2, 6), (0, 1, 7, *WRONG)),
            (("pad", 3, "bare"), 2, MANNERS, WRONG),
        ):
            self.right(base, *[(*base[:at], one, *base[at + 1:]) for one in right])
            self.wrong(*[(*base[:at], one, *base[at + 1:]) for one in wrong])

    def test_parts_in_parts(self):
        for holder in (lambda one: row(CELL, one), lambda one: ("choice", "bare", ((1, CELL), (3, one))),
                       lambda one: ("times", 2, one), lambda one: ("counted", "bare", None, None, one),
                       lambda one: ("within", "bare", None, "cut", "skip", one), lambda one: ("fill", one),
                       lambda one: ("if left", one), lambda one: ("times", 0, one)):
            self.right(holder(CELL), holder(row()), holder(("pad", 2, "bare")))
            self.wrong(holder(("need", 0)), holder(list(CELL)), *[holder(one) for one in WRONG])

    def test_options(self):
        self.right(("choice", "bare", tuple((n, CELL) for n in (0, 1, 5, 7, 98, 99))),
                   ("choice", "checked", ((99, CELL),)))
        six = tuple((n, CELL) for n in range(6))
        for options in ((), (*six, (6, CELL)), list(six), ([1, CELL],), ((1, CELL, CELL),), ((1,),), ((-1, CELL),),
                        ((100, CELL),), ((True, CELL),), ((None, CELL),), ((1, CELL), (1, CELL)), ((2, CELL), (1, CELL)),
                        ((0, CELL), (True, CELL)), ((False, CELL), (1, CELL)), (CELL,), (1,), None, "", (EqualToAll(),),
                        ((1, CELL), EqualToAll())):
            self.wrong(("choice", "bare", options))

    def test_other_objects(self):
        self.wrong(*WRONG, CELL[:-1], (*CELL, 1), ("row",), ("row", (), ()), ("fill",), ("fill", CELL, CELL),
                   ("times", CELL), ("times", 2), ("counted", "bare", None, CELL), ("need",), ("need", 1, 1),
                   ("within", "bare", None, "cut", "skip"), ("pad", 2), ("if", CELL), ("if left",), ("ifleft", CELL),
                   ("Cell", 0, None, "bare"), (b"need", 1), (EqualToAll(), 1), ((), 1), ([], 1), ("", 1),
                   list(CELL), {"need": 1}, ("choice", "bare"), ("option", 1, CELL), ("bare", CELL))

    def test_ahead_needs_a_size(self):
        for part, has_size in ((CELL, True), (NEED, True), (row(), True), (row(CELL, NEED), True), (FILL, False),
                               (row(CELL, FILL), False), (("if left", CELL), False), (("pad", 2, "bare"), False),
                               (("counted", "bare", 0, None, CELL), False), (("times", 0, FILL), False),
                               (("choice", "bare", ((0, CELL), (1, row()))), False),
                               (("within", "bare", 0, "cut", "exact", row()), False)):
            self.right(("counted", "bare", 3, None, part))
            for ahead in (0, 9):
                self.assertIs(is_part(("counted", "bare", None, ahead, part)), has_size, part)
                self.assertIs(is_part(("times", 0, row(("counted", "bare", None, ahead, part)))), has_size)

    def test_told(self):
        barred = (NEED, ("within", "checked", None, "nested", "skip", CELL), ("within", "bare", 0, "told", "skip", CELL),
                  ("counted", "bare", None, 0, CELL), ("counted", "checked", 2, 1, row()))
        allowed = (CELL, FILL, row(), ("counted", "bare", 2, None, CELL), ("pad", 2, "bare"), ("if left", CELL))
        for rest in ("skip", "exact"):
            for place in (lambda one: one, lambda one: row(CELL, one), lambda one: ("times", 0, one),
                          lambda one: row(CELL, ("fill", ("choice", "bare", ((0, CELL), (1, nested(one, 2)))))),
                          lambda one: ("counted", "bare", 2, None, ("if left", one))):
                for one in allowed:
                    self.right(("within", "bare", None, "told", rest, place(one)))
                for one in barred:
                    self.wrong(("within", "bare", None, "told", rest, place(one)))
                    self.wrong(row(("within", "bare", None, "told", rest, place(one))))
                    self.right(("within", "bare", None, "cut", rest, place(one)))
                    self.right(row(("within", "bare", None, "told", rest, CELL), place(one)))

    def test_deep(self):
        for least in (CELL, row(), NEED):
            self.right(nested(least, 6), nested(least, 7))
            self.wrong(nested(least, 8), nested(least, 9), nested(least, 5000))
        self.right(row(CELL, nested(("fill", CELL), 6 - 1)))
        self.wrong(row(CELL, nested(("fill", CELL), 6)))
        part = CELL
        for time in range(7):
            part = ("choice", "bare", ((time, part),))
        self.right(part)
        self.wrong(("fill", part), ("times", 0, part))

    def test_many(self):
        twelve = row(*[CELL] * 12)
        four = row(twelve, twelve, twelve, twelve)
        self.right(row(*four[1], *[CELL] * 7))
        self.wrong(row(*four[1], *[CELL] * 8))
        self.right(("fill", row(*four[1], *[CELL] * 6)))
        self.wrong(("times", 0, row(*four[1], *[CELL] * 7)))

    def test_many_that_are_shared(self):
        part = CELL
        for time in range(7):
            part = ("row", (part,) * 12)
        self.wrong(part, ("fill", part))

    def test_counted_so_many_times(self):
        # The first is 1 + 6 * (1 + 6 * (1 + 6 * 4)), which is 907; the second is 1 + 6 * 13.
        large = ("times", 6, ("times", 6, ("times", 6, row(CELL, CELL, CELL))))
        middle = ("times", 6, row(*[CELL] * 12))
        self.right(row(large, middle, row(*[CELL] * 11)))
        self.right(row(large, middle, row(*[CELL] * 12)))
        self.wrong(row(large, middle, row(*[CELL] * 12), CELL))
        self.right(row(large, middle, row(*[CELL] * 11), ("times", 0, large)))
        self.wrong(row(large, middle, row(*[CELL] * 12), ("times", 0, large)))
        self.wrong(("times", 2, large))
        self.right(("times", 1, large), ("fill", large), ("counted", "bare", 9, None, large))

    def test_times_zero_may_hold_more(self):
        part = CELL
        for time in range(4):
            part = ("times", 6, part)
        self.wrong(("times", 6, part), row(("times", 1, part), part[2], part))
        self.right(("times", 0, part), row(("times", 0, part)))


class Sizes(unittest.TestCase):
    def sized(self, size, *parts):
        for part in parts:
            self.assertTrue(is_part(part), part)
            self.assertEqual(size_of(part), size, part)

    def test_cells_needs_and_others(self):
        self.sized(1, CELL, ("cell", 4, 5, "bare"))
        self.sized(0, NEED, ("need", 9))
        self.sized(None, FILL, ("fill", row()), ("if left", CELL), ("pad", 2, "bare"), ("counted", "bare", 2, None, CELL),
                   ("counted", "bare", 0, 3, row()), ("within", "bare", 0, "nested", "exact", row()))

    def test_rows(self):
        self.sized(0, row(), row(NEED), row(row(), row()))
        self.sized(3, row(CELL, CELL, NEED, CELL), row(row(CELL, CELL), row(CELL)))
        self.sized(None, row(CELL, FILL), row(FILL), row(CELL, row(row(FILL))))

    def test_times(self):
        self.sized(0, ("times", 0, CELL), ("times", 6, NEED))
        self.sized(12, ("times", 4, row(CELL, CELL, CELL)))
        self.sized(None, ("times", 0, FILL), ("times", 2, FILL))

    def test_choices(self):
        self.sized(2, ("choice", "bare", ((4, CELL),)), ("choice", "checked", ((0, CELL), (1, row(CELL, NEED)))))
        self.sized(1, ("choice", "bare", ((0, row()), (3, NEED), (9, ("times", 0, CELL)))))
        self.sized(None, ("choice", "bare", ((0, CELL), (1, CELL), (2, row()))), ("choice", "bare", ((0, FILL),)),
                   ("choice", "bare", ((0, FILL), (1, FILL))), ("choice", "bare", ((0, CELL), (1, FILL))),
                   ("choice", "bare", ((0, FILL), (1, CELL))))

    def test_in_one_another(self):
        choice = ("choice", "bare", ((0, row(CELL, CELL)), (1, ("times", 2, CELL))))
        self.sized(7, row(("times", 2, choice), CELL))


TREE = row(CELL, ("choice", "bare", ((2, BARE), (7, ("times", 2, row(NEED, BARE))))),
           ("counted", "bare", 3, None, ("within", "bare", 4, "cut", "skip", ("fill", ("if left", CELL)))),
           ("pad", 3, "bare"))
PATHS = [(), (0,), (1,), (1, 0), (1, 1), (1, 1, 0), (1, 1, 0, 0), (1, 1, 0, 1), (2,), (2, 0), (2, 0, 0), (2, 0, 0, 0),
         (2, 0, 0, 0, 0), (3,)]


class Paths(unittest.TestCase):
    def test_subparts(self):
        pairs = subparts(TREE)
        self.assertEqual([path for path, part in pairs], PATHS)
        self.assertEqual([part[0] for path, part in pairs],
                         ["row", "cell", "choice", "cell", "times", "row", "need", "cell", "counted", "within", "fill",
                          "if left", "cell", "pad"])
        self.assertIs(type(pairs), list)
        self.assertEqual({type(pair) for pair in pairs}, {tuple})
        self.assertIsNot(subparts(TREE), subparts(TREE))
        self.assertEqual(subparts(CELL), [((), CELL)])
        self.assertEqual(subparts(("times", 0, CELL)), [((), ("times", 0, CELL)), ((0,), CELL)])
        self.assertEqual(subparts(row()), [((), row())])

    def test_part_at(self):
        for path, part in subparts(TREE):
            self.assertEqual(part_at(TREE, path), part)
        self.assertEqual(part_at(TREE, (1, 1, 0, 0)), NEED)
        self.assertEqual(part_at(path=(2, 0), part=TREE), TREE[1][2][4])

    def test_replaced(self):
        other = ("cell", 1, 1, "bare")
        for path in PATHS:
            made = replaced(TREE, path, other)
            self.assertTrue(is_part(made))
            self.assertEqual(part_at(made, path), other)
            self.assertEqual(replaced(made, path, part_at(TREE, path)), TREE)
            for away, part in subparts(TREE):
                if away != path[:len(away)] and path != away[:len(path)]:
                    self.assertEqual(part_at(made, away), part)
        self.assertEqual(replaced(TREE, (), other), other)

    def test_replaced_in_each_kind(self):
        for part, path, wanted in (
            (row(CELL, CELL), (1,), row(CELL, BARE)),
            (("choice", "bare", ((2, CELL), (5, CELL))), (0,), ("choice", "bare", ((2, BARE), (5, CELL)))),
            (("times", 3, CELL), (0,), ("times", 3, BARE)),
            (("counted", "bare", 2, 1, CELL), (0,), ("counted", "bare", 2, 1, BARE)),
            (("within", "bare", 2, "cut", "exact", CELL), (0,), ("within", "bare", 2, "cut", "exact", BARE)),
            (FILL, (0,), ("fill", BARE)),
            (("if left", CELL), (0,), ("if left", BARE)),
        ):
            self.assertEqual(replaced(part, path, BARE), wanted)

    def test_replaced_that_makes_no_part(self):
        for other in (None, 5, "cell", [], ("cell",), FILL):
            made = replaced(("counted", "bare", 2, 1, row(CELL, CELL)), (0, 1), other)
            self.assertEqual(made, ("counted", "bare", 2, 1, row(CELL, other)))
            self.assertFalse(is_part(made))
        self.assertEqual(replaced(part=CELL, path=(), other=7), 7)


if __name__ == "__main__":
    unittest.main()
