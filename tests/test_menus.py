import itertools
import random
import unittest

from drawn import drawn_readers
from made import BARE, CELL, GREAT, NOTHING, choice, counted, fill, if_left, pad, row, times, within
from strange import strange_objects
from withinlimits.errors import LimitError, NoChange, NoPart, NoWord, TooLarge
from withinlimits.lengths import lengths_of, verdict_of
from withinlimits.menus import changed, least_changes
from withinlimits.parts import MANNER_AT, part_at, replaced, size_of, subparts
from withinlimits.reading import Reader
from withinlimits.work import idle_of


def need(many):
    return ("need", many)


def goal_reached(reader, goal):
    if not verdict_of(reader):
        return False
    if goal == "ends":
        return not lengths_of(reader, "endless")
    return goal == "never" or idle_of(reader) is None


class Changed(unittest.TestCase):
    def check(self, part, wanted, *changes):
        reader = Reader(part)
        for order in itertools.permutations(changes):
            self.assertEqual(changed(reader, *order).part, wanted, order)
        self.assertEqual(reader, Reader(part))

    def test_none(self):
        for part in (CELL, NOTHING, fill(BARE)):
            self.check(part, part)

    def test_look(self):
        for one, other in ((BARE, CELL), (CELL, CELL), (("cell", 3, 9, "bare"), ("cell", 3, 9, "checked")),
                           (choice(BARE, manner="bare"), choice(BARE)), (pad(5, "bare"), pad(5)), (pad(5), pad(5)),
                           (counted(BARE, 3, 4, "bare"), counted(BARE, 3, 4)), (counted(BARE), counted(BARE)),
                           (within(BARE, "told", "exact", 7, "bare"), within(BARE, "told", "exact", 7))):
            self.check(one, other, ("look", ()))
            self.check(row(NOTHING, fill(one)), row(NOTHING, fill(other)), ("look", (1, 0)))

    def test_need(self):
        for part in (BARE, NOTHING, need(3), choice(BARE), pad(2), fill(CELL), times(2, CELL), if_left(CELL),
                     counted(CELL, 3, 4), within(CELL)):
            for many in (1, 9):
                wanted = row(need(many), part)
                self.check(part, wanted, ("need", (), many))
                self.check(row(CELL, choice(part)), row(CELL, choice(wanted)), ("need", (1, 0), many))

    def test_numbers_and_words(self):
        part = counted(row(CELL, need(2)), 3, 4, "bare")
        self.check(part, counted(row(CELL, need(2)), 3, 0, "bare"), ("ahead", (), 0))
        self.check(part, counted(row(CELL, need(2)), 3, 9, "bare"), ("ahead", (), 9))
        self.check(counted(CELL), counted(CELL, ahead=5), ("ahead", (), 5))
        self.check(part, counted(row(CELL, need(2)), 0, 4, "bare"), ("most", (), 0))
        self.check(counted(fill(CELL)), counted(fill(CELL), 9), ("most", (), 9))
        part = within(CELL, "cut", "skip", 3, "bare")
        self.check(part, within(CELL, "cut", "skip", 0, "bare"), ("most", (), 0))
        self.check(part, within(CELL, "cut", "skip", 20, "bare"), ("most", (), 20))
        for limit in ("nested", "cut", "told"):
            self.check(part, within(CELL, limit, "skip", 3, "bare"), ("limit", (), limit))
        for rest in ("skip", "exact"):
            self.check(part, within(CELL, "cut", rest, 3, "bare"), ("rest", (), rest))

    def test_several(self):
        self.check(counted(BARE, manner="bare"), counted(CELL, 4, 2), ("look", ()), ("look", (0,)), ("ahead", (), 2),
                   ("most", (), 4))
        self.check(within(BARE, manner="bare"), within(CELL, "cut", "exact", 8), ("look", ()), ("look", (0,)),
                   ("limit", (), "cut"), ("rest", (), "exact"), ("most", (), 8))
        # By the paths of the reader as it was: a need ahead of a part, and changes of it and in it.
        self.check(fill(row(BARE, BARE)), row(need(1), fill(row(need(2), row(row(need(3), CELL), BARE)))),
                   ("need", (), 1), ("need", (0,), 2), ("need", (0, 0), 3), ("look", (0, 0)))
        self.check(row(counted(BARE), within(NOTHING)),
                   row(row(need(4), counted(row(need(5), CELL), 6)), within(row(need(8), NOTHING), most=9)),
                   ("need", (0,), 4), ("need", (0, 0), 5), ("look", (0, 0)), ("most", (0,), 6), ("need", (1, 0), 8),
                   ("most", (1,), 9))
        # A size stays as it was with a need in the part.
        self.check(counted(BARE), counted(row(need(1), BARE), ahead=3), ("ahead", (), 3), ("need", (0,), 1))

    def test_drawn(self):
        """Changes one at a time, each against what it is to put at its path."""
        many = 0
        for reader in drawn_readers(141, 150):
            for path, part in subparts(reader.part):
                others = {("need", path, 2): row(need(2), part)}
                if part[0] in MANNER_AT:
                    at = MANNER_AT[part[0]]
                    others[("look", path)] = part[:at] + ("checked",) + part[at + 1:]
                if part[0] == "counted" and size_of(part[4]) is not None:
                    others[("ahead", path, 1)] = part[:3] + (1,) + part[4:]
                if part[0] in ("counted", "within"):
                    others[("most", path, 2)] = part[:2] + (2,) + part[3:]
                if part[0] == "within":
                    others[("limit", path, "told")] = part[:3] + ("told",) + part[4:]
                    others[("rest", path, "exact")] = part[:4] + ("exact",) + part[5:]
                for change, other in others.items():
                    wanted = replaced(reader.part, path, other)
                    try:
                        wanted = Reader(wanted)
                    except NoPart:
                        with self.assertRaises(NoChange) as caught:
                            changed(reader, change)
                        self.assertEqual(caught.exception.value, (change,))
                        many += 1
                    else:
                        self.assertEqual(changed(reader, change), wanted)
        self.assertGreater(many, 20)

    def test_changes_that_make_no_part(self):
        deep = CELL
        for level in range(7):
            deep = fill(deep)
        wide = row(*[row(*[CELL] * 9) for number in range(5)], row(*[CELL] * 8))
        for part, changes, path in (
                (deep, (("need", (0,) * 7, 1),), (0,) * 7 + (0,)), (deep, (("need", (), 1), ("look", (0,) * 7)), None),
                (within(need(2)), (("limit", (), "told"),), ()),
                (fill(within(within(CELL))), (("limit", (0,), "told"), ("rest", (0,), "exact")), (0,)),
                (within(counted(CELL, ahead=0)), (("limit", (), "told"),), ()),
                (within(counted(CELL), "told"), (("most", (), 3), ("ahead", (0,), 0)), ()),
                (within(CELL, "told"), (("need", (0,), 1),), ()),
                (within(CELL), (("need", (0,), 1), ("limit", (), "told")), ()),
                (wide, (("need", (0,), 1),), ())):
            reader = Reader(part)
            with self.assertRaises(NoChange) as caught:
                changed(reader, *changes)
            self.assertEqual(caught.exception.value, changes)
            self.assertIsInstance(caught.exception.value, tuple)
            self.assertIs(type(caught.exception.__cause__), NoPart)
            self.assertIsInstance(caught.exception, LimitError)
            if path is not None:
                self.assertEqual(caught.exception.__cause__.path, path)
        # What one makes wrong another can make right again.
        reader = Reader(within(CELL, "told"))
        self.assertEqual(changed(reader, ("need", (0,), 1), ("limit", (), "cut")),
                         Reader(within(row(need(1), CELL), "cut")))


class NoChanges(unittest.TestCase):
    PART = row(CELL, counted(CELL, 3, 4), counted(fill(CELL)), within(need(2)), NOTHING, fill(pad(2)),
               choice(times(2, CELL)), if_left(need(3)))
    WRONG = (
        ("look",), ("look", (), 1), ("look", (0,), None), ("Look", (0,)), ("look ", (0,)), ("", (0,)), (b"look", (0,)),
        (None, (0,)), (True, (0,)), (("look",), (0,)), (["look"], (0,)), ("look", ()), ("look", (4,)), ("look", (3, 0)), ("look", (5,)),
        ("look", (6, 0)), ("look", (7,)), ("look", (7, 0)), ("look", (8,)), ("look", (-1,)), ("look", (0, 0)),
        ("look", [0]), ("look", 0), ("look", "0"), ("look", None), ("look", (False,)), ("look", (True,)),
        ("look", (0.0,)), ("look", ("0",)), ("look", (1, False)), ["look", (0,)], "look", ("need",), ("need", ()),
        ("need", (), 0), ("need", (), 10), ("need", (), -1), ("need", (), True), ("need", (), 1.0), ("need", (), "1"),
        ("need", (), None), ("need", (), (1,)), ("need", (), GREAT), ("need", (), 1, 1), ("need", (9,), 1),
        ("need", [], 1), ("need", (True,), 1), ["need", (), 1], ("ahead", (1,), 10), ("ahead", (1,), -1),
        ("ahead", (1,), None), ("ahead", (1,), False), ("ahead", (1,), "0"), ("ahead", (2,), 0), ("ahead", (0,), 0),
        ("ahead", (3,), 0), ("ahead", (), 0), ("ahead", (1,)), ("ahead", (True,), 0), ("most", (1,), 10),
        ("most", (1,), -1), ("most", (1,), None), ("most", (1,), True), ("most", (3,), 21), ("most", (3,), -1),
        ("most", (3,), None), ("most", (3,), False), ("most", (0,), 3), ("most", (), 3), ("most", (5,), 3),
        ("most", (3,)), ("most", (5, 0), 2), ("limit", (3,), "Cut"), ("limit", (3,), ""), ("limit", (3,), None),
        ("limit", (3,), 1), ("limit", (3,), ("cut",)), ("limit", (3,), "skip"), ("limit", (3,)), ("limit", (1,), "cut"),
        ("limit", (), "cut"), ("rest", (3,), "cut"), ("rest", (3,), None), ("rest", (3,), True), ("rest", (0,), "skip"),
        ("rest", (3,)), ("rest", (), "exact"), ("part", (0,), CELL), ("low", (0,), 1), ("times", (6, 0), 3),
        (["need"], (), 1), ({"need"}, (), 1), (("need",), (), 1), (b"need", (), 1), (None, (), 1),
        ("pad", (5, 0), 3), (1, (0,), 2), ("cell", (0,)), (), ((), "look"), ((0,), "look"),
    )

    def refuses(self, value, reader, *changes):
        for call in (changed, lambda reader, *menu: least_changes(reader, menu),
                     lambda reader, *menu: least_changes(reader, list(menu), goal="ends")):
            with self.assertRaises(NoChange) as caught:
                call(reader, *changes)
            self.assertIs(caught.exception.value, value)
            self.assertIsNone(caught.exception.__cause__)

    def test_wrong(self):
        reader = Reader(self.PART)
        right = ("look", (0,))
        for thing in self.WRONG + tuple(strange_objects()):
            self.refuses(thing, reader, thing)
            self.refuses(thing, reader, right, thing)
            self.refuses(thing, reader, right, thing, right, None)
        for word in ("look", "need", "ahead", "most", "limit", "rest"):
            for thing in strange_objects():
                change = (word, (3,), thing)
                self.refuses(change, reader, change)
                if not isinstance(thing, tuple):
                    change = (word, thing) if word == "look" else (word, thing, 1)
                    self.refuses(change, reader, change)

    def test_twice_the_same_word_and_path(self):
        reader = Reader(self.PART)
        for one, other in ((("look", (0,)), ("look", (0,))), (("need", (), 1), ("need", (), 2)),
                           (("need", (1,), 3), ("need", (1,), 3)), (("ahead", (1,), 3), ("ahead", (1,), 0)),
                           (("most", (1,), 3), ("most", (1,), 4)), (("limit", (3,), "cut"), ("limit", (3,), "nested")),
                           (("rest", (3,), "skip"), ("rest", (3,), "exact"))):
            self.refuses(other, reader, one, other)
            self.refuses(other, reader, ("need", (5, 0), 1), one, ("look", (5, 0)), other, None)
            changed(reader, one, ("need", (0,), 1), ("most", (2,), 1))
        # No change at all comes ahead of one that is there twice.
        with self.assertRaises(NoChange) as caught:
            changed(reader, ("look", (0,)), ("look", (4,)), ("look", (0,)))
        self.assertEqual(caught.exception.value, ("look", (4,)))

    def test_no_readers(self):
        for thing in strange_objects() + [CELL]:
            for call in (lambda: changed(thing), lambda: changed(thing, None), lambda: least_changes(thing, []),
                         lambda: least_changes(thing, [None], goal="Never"), lambda: least_changes(thing, [None] * 7)):
                with self.assertRaises(NoWord) as caught:
                    call()
                self.assertIs(caught.exception.value, thing)


class LeastChanges(unittest.TestCase):
    def by_all_parts(self, reader, menu, goal):
        """The least lists by trying all parts of a menu."""
        reached = []
        for many in range(len(menu) + 1):
            for chosen in itertools.combinations(range(len(menu)), many):
                try:
                    other = changed(reader, *[menu[index] for index in chosen])
                except NoChange:
                    continue
                if goal_reached(other, goal):
                    reached.append(chosen)
        least = [one for one in reached if not any(set(other) < set(one) for other in reached)]
        return [[menu[index] for index in chosen] for chosen in least]

    def drawn_menu(self, draw, reader):
        menu = []
        places = subparts(reader.part)
        for time in range(draw.randrange(1, 9)):
            path, part = draw.choice(places)
            change = draw.choice((("look", path), ("need", path, draw.randrange(1, 4)), ("ahead", path, draw.randrange(3)),
                                  ("most", path, draw.randrange(4)), ("limit", path, draw.choice(("nested", "cut", "told"))),
                                  ("rest", path, draw.choice(("skip", "exact")))))
            try:
                changed(reader, change)
            except NoChange as error:
                if error.__cause__ is None:
                    continue
            if change[:2] not in [one[:2] for one in menu] and len(menu) < 6:
                menu.append(change)
        return menu

    def test_drawn(self):
        draw = random.Random(142)
        seen = {}
        for reader in drawn_readers(143, 260):
            menu = self.drawn_menu(draw, reader)
            for goal in ("never", "ends", "bounded"):
                found = least_changes(reader, menu, goal=goal)
                self.assertEqual(found, self.by_all_parts(reader, menu, goal), (reader.part, menu, goal))
                self.assertEqual(found, least_changes(reader, tuple(menu), goal=goal))
                self.assertIsInstance(found, list)
                seen[goal, min(len(found), 2), len(found) > 0 and len(found[0])] = True
                if goal == "never":
                    self.assertEqual(found, least_changes(reader, menu))
        for goal in ("never", "ends", "bounded"):
            for form in ((0, False), (1, 0), (1, 1), (1, 2), (2, 1)):
                self.assertIn((goal, *form), seen)

    def test_known(self):
        reader = Reader(row(BARE, BARE))
        look, other, both = ("look", (0,)), ("look", (1,)), ("need", (), 2)
        self.assertEqual(least_changes(reader, [look, other, both]), [[both], [look, other]])
        self.assertEqual(least_changes(reader, (both, other, look)), [[both], [other, look]])
        self.assertEqual(least_changes(reader, [look, ("need", (1,), 1), other]),
                         [[look, ("need", (1,), 1)], [look, other]])
        self.assertEqual(least_changes(reader, [look]), [])
        self.assertEqual(least_changes(reader, []), [])
        self.assertEqual(least_changes(Reader(CELL), []), [[]])
        self.assertEqual(least_changes(Reader(CELL), [("look", ()), both]), [[]])
        self.assertEqual(least_changes(menu=[look, other], goal="never", reader=reader), [[look, other]])
        with self.assertRaises(TypeError):
            least_changes(reader, [look], "never")

    def test_goals(self):
        reader = Reader(fill(counted(row(BARE, NOTHING), manner="bare")))
        menu = [("look", (0, 0, 0)), ("ahead", (0,), 0), ("most", (0,), 0)]
        for goal in ("never", "ends", "bounded"):
            self.assertEqual(least_changes(reader, menu, goal=goal), [[one] for one in menu])
        reader = Reader(counted(if_left(BARE)))
        self.assertEqual(least_changes(reader, [("most", (), 3)], goal="ends"), [[]])
        self.assertEqual(least_changes(reader, [("most", (), 3), ("need", (0,), 1)], goal="bounded"),
                         [[("most", (), 3)], [("need", (0,), 1)]])
        reader = Reader(fill(if_left(pad(2))))
        self.assertEqual(least_changes(reader, [("need", (0,), 9), ("look", (0, 0))]), [[]])
        self.assertEqual(least_changes(reader, [("need", (0,), 9), ("look", (0, 0))], goal="ends"), [])
        # Bounded does not ask that a reading ends, only that its work does not grow with a number.
        self.assertEqual(least_changes(reader, [], goal="bounded"), [[]])

    def test_changes_that_make_no_part_reach_no_goal(self):
        reader = Reader(within(row(BARE, BARE)))
        menu = [("limit", (), "told"), ("need", (0,), 2), ("most", (), 0), ("look", (0, 0)), ("look", (0, 1))]
        self.assertEqual(least_changes(reader, menu), [[menu[1]], [menu[2], menu[3]], [menu[3], menu[4]]])
        reader = Reader(within(CELL, "told"))
        self.assertEqual(least_changes(reader, [("need", (0,), 1)]), [])
        self.assertEqual(least_changes(reader, [("need", (0,), 1), ("limit", (), "cut")]), [[("limit", (), "cut")]])
        reader = Reader(row(within(BARE, "told"), CELL))
        menu = [("need", (0, 0), 1), ("limit", (0,), "nested"), ("look", (0, 0))]
        self.assertEqual(least_changes(reader, menu), [[menu[0], menu[1]], [menu[1], menu[2]]])

    def test_errors_in_order(self):
        reader = Reader(row(BARE, BARE, BARE))
        seven = [("look", (0,)), ("look", (1,)), ("look", (2,)), ("need", (), 1), ("need", (0,), 1), ("need", (1,), 1),
                 ("need", (2,), 1)]
        for goal in ("Never", "", None, True, 1, ("never",), ["never"], b"never", "never ", *strange_objects()):
            for menu in ([], [None], seven + [None]):
                with self.assertRaises(NoWord) as caught:
                    least_changes(reader, menu, goal=goal)
                self.assertIs(caught.exception.value, goal)
        for menu in (seven, tuple(seven), seven + [("look", (0,))], seven + [None]):
            error = TooLarge if len(menu) == 7 else NoChange
            for goal in ("never", "ends", "bounded"):
                with self.assertRaises(error) as caught:
                    least_changes(reader, menu, goal=goal)
                if error == TooLarge:
                    self.assertEqual(caught.exception.limit, "menu")
                else:
                    self.assertIs(caught.exception.value, menu[-1])
        # Also where the reader has reached the goal already.
        with self.assertRaises(TooLarge) as caught:
            least_changes(Reader(row(CELL, CELL, CELL)), seven)
        self.assertEqual(caught.exception.limit, "menu")
        self.assertEqual(least_changes(reader, seven[:6])[0], [("look", (0,)), ("look", (1,)), ("look", (2,))])

    def test_too_large(self):
        part = CELL
        for turn in range(6):
            part = counted(part, most=9)
        for goal in ("never", "ends", "bounded"):
            with self.assertRaises(TooLarge):
                least_changes(Reader(part), [], goal=goal)
        self.assertEqual(part_at(changed(Reader(part), ("look", (0,) * 6)).part, (0,) * 6), CELL)

    def test_the_menu_stays(self):
        menu = [("look", (0,)), ("need", (), 1)]
        found = least_changes(Reader(row(BARE)), menu)
        self.assertEqual(menu, [("look", (0,)), ("need", (), 1)])
        self.assertEqual(found, [[menu[0]], [menu[1]]])
        found[0].clear()
        self.assertEqual(least_changes(Reader(row(BARE)), menu), [[menu[0]], [menu[1]]])


if __name__ == "__main__":
    unittest.main()
