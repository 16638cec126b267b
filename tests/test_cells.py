import unittest

from strange import EqualToAll, Touchy, strange_objects
from withinlimits.cells import Cursor, Limit
from withinlimits.errors import Beyond, NoRow, NoWord, Refused

HUGE = 10 ** 30


def state(cursor):
    return (cursor.at, cursor.left, cursor.inside, cursor.depth, cursor.looks)


class CursorTest(unittest.TestCase):
    def refuses(self, place, reason, call, *args, **named):
        with self.assertRaises(Refused) as caught:
            call(*args, **named)
        self.assertEqual((caught.exception.place, caught.exception.reason), (place, reason))

    def beyond(self, place, call, *args, **named):
        with self.assertRaises(Beyond) as caught:
            call(*args, **named)
        self.assertEqual(caught.exception.place, place)

    def no_word(self, value, call, *args, **named):
        with self.assertRaises(NoWord) as caught:
            call(*args, **named)
        self.assertIs(caught.exception.value, value)


class Rows(CursorTest):
    def no_row(self, row):
        with self.assertRaises(NoRow) as caught:
            Cursor(row)
        return caught.exception.index

    def test_no_list(self):
        for row in (None, True, 3, "12", (1, 2), {1: 2}, {1, 2}, b"12", range(3), Touchy(), EqualToAll(), iter([1])):
            self.assertIs(self.no_row(row), None)

    def test_too_many_cells(self):
        self.assertEqual(len(Cursor([0] * 10000)), 10000)
        self.assertIs(self.no_row([0] * 10001), None)
        self.assertIs(self.no_row([None] * 10001), None)

    def test_wrong_cells(self):
        for cell in (-1, HUGE + 1, *strange_objects()):
            self.assertEqual(self.no_row([cell]), 0)
            self.assertEqual(self.no_row([1, HUGE, cell, cell, 5]), 2)
        self.assertEqual(self.no_row([0] * 9999 + [True]), 9999)

    def test_right_cells(self):
        cursor = Cursor([0, HUGE, 5])
        self.assertEqual([cursor.look() for time in range(3)], [0, HUGE, 5])

    def test_at_first(self):
        self.assertEqual(state(Cursor([4, 5])), (0, 2, 0, 0, 0))
        self.assertEqual(len(Cursor([4, 5])), 2)
        self.assertEqual(state(Cursor([])), (0, 0, 0, 0, 0))
        self.assertEqual(len(Cursor(row=[])), 0)

    def test_later_changes_have_no_effect(self):
        row = [1, 2, 3]
        cursor = Cursor(row)
        row[0] = -5
        row.pop()
        self.assertEqual([cursor.bare() for time in range(3)], [1, 2, 3])
        self.assertEqual((row, len(cursor)), ([-5, 2], 3))

    def test_compared_with_any_object(self):
        cursor = Cursor([1])
        for other in (None, 1, [1], Cursor([1]), cursor.within(0)):
            self.assertIs(cursor == other, False)
            self.assertIs(cursor.within(0) == other, False)
        self.assertIs(cursor == cursor, True)


class Looks(CursorTest):
    def test_bounds(self):
        for name in ("look", "bare"):
            for low, high, right in ((0, None, True), (5, None, True), (6, None, False), (0, 5, True), (0, 4, False),
                                     (5, 5, True), (HUGE * 10, None, False), (0, 0, False), (0, HUGE * 10, True)):
                cursor = Cursor([5, 6])
                look = getattr(cursor, name)
                if right:
                    self.assertEqual(look(low, high), 5)
                    self.assertEqual(state(cursor), (1, 1, 1, 0, 1))
                else:
                    self.refuses(0, "value", look, low, high)
                    self.assertEqual(state(cursor), (0, 2, 0, 0, 1))
                    self.refuses(0, "value", look, low=low, high=high)
                    self.assertEqual(state(cursor), (0, 2, 0, 0, 2))

    def test_at_the_end_of_the_row(self):
        cursor = Cursor([7])
        self.assertEqual(cursor.look(high=7), 7)
        self.beyond(1, cursor.bare)
        self.refuses(1, "short", cursor.look)
        self.assertEqual(state(cursor), (1, 0, 1, 0, 1))
        self.beyond(0, Cursor([]).bare, 9)
        self.refuses(0, "short", Cursor([]).look, 9)

    def test_wrong_bounds(self):
        cursor = Cursor([])
        for call in (cursor.look, cursor.bare):
            for low in (-1, *strange_objects()):
                self.no_word(low, call, low)
                self.no_word(low, call, low, -7)
            for high in (-1, 2, *strange_objects()[1:]):
                self.no_word(high, call, 3, high)
            self.assertEqual(state(cursor), (0, 0, 0, 0, 0))

    def test_wrong_bounds_ahead_of_a_look(self):
        cursor = Cursor([1, 2])
        for call in (cursor.look, cursor.bare):
            self.no_word(0, call, 1, 0)
            self.no_word(None, call, None)
            self.assertEqual(state(cursor), (0, 2, 0, 0, 0))

    def test_need(self):
        cursor = Cursor([1, 2, 3])
        cursor.look()
        for many in (0, 1, 2):
            self.assertIs(cursor.need(many), None)
        for many in (3, HUGE, HUGE + 1):
            self.refuses(1, "short", cursor.need, many)
        for many in (-1, *strange_objects()):
            self.no_word(many, cursor.need, many=many)
        self.assertEqual(state(cursor), (1, 2, 1, 0, 1))

    def test_need_goes_by_the_innermost_limit(self):
        cursor = Cursor([1, 2, 3])
        with cursor.within(1):
            self.refuses(0, "short", cursor.need, 2)
        with cursor.within(9, limit="told"):
            cursor.need(9)
            self.refuses(0, "short", cursor.need, 10)


class Limits(CursorTest):
    def test_words_and_ends(self):
        for many, limit, end in ((0, "nested", 1), (2, "nested", 3), (3, "nested", None), (HUGE, "nested", None),
                                 (0, "cut", 1), (2, "cut", 3), (3, "cut", 3), (HUGE, "cut", 3), (0, "told", 1),
                                 (2, "told", 3), (3, "told", 4), (HUGE, "told", HUGE + 1)):
            cursor = Cursor([0, 0, 0])
            cursor.look()
            if end is None:
                self.refuses(1, "nested", cursor.within, many, limit=limit)
            else:
                made = cursor.within(many=many, limit=limit)
                self.assertIsInstance(made, Limit)
                self.assertEqual(made.end, end)
            self.assertEqual(state(cursor), (1, 2, 1, 0, 1))

    def test_nested_by_itself(self):
        self.assertEqual(Cursor([0, 0]).within(2).end, 2)
        self.refuses(0, "nested", Cursor([0, 0]).within, 3)

    def test_wrong_values(self):
        cursor = Cursor([0])
        for many in (-1, HUGE + 1, *strange_objects()):
            self.no_word(many, cursor.within, many)
            self.no_word(many, cursor.within, many, limit="other")
        for limit in ("", "skip", "Nested", "nest", b"nested", *strange_objects()):
            self.no_word(limit, cursor.within, 5, limit=limit)
        with self.assertRaises(TypeError):
            cursor.within(1, "cut")
        self.assertEqual(state(cursor), (0, 1, 0, 0, 0))

    def test_only_within_the_block(self):
        cursor = Cursor([1, 2, 3, 4])
        cursor.look()
        made = cursor.within(2)
        self.assertEqual(state(cursor), (1, 3, 1, 0, 1))
        with made as same:
            self.assertIs(same, cursor)
            self.assertEqual(state(cursor), (1, 2, 0, 1, 1))
            cursor.look()
            self.assertEqual(state(cursor), (2, 1, 1, 1, 2))
        self.assertEqual(state(cursor), (2, 2, 2, 0, 2))
        self.assertEqual(made.end, 3)

    def test_three_deep(self):
        cursor = Cursor([0] * 9)
        cursor.bare()
        with cursor.within(7) as one:
            one.bare()
            with one.within(5) as two:
                two.bare()
                with two.within(3) as three:
                    self.assertEqual(state(three), (3, 3, 0, 3, 3))
                    three.bare()
                    three.bare()
                    three.bare()
                    self.assertEqual(state(three), (6, 0, 3, 3, 6))
                    self.beyond(6, three.bare)
                    self.refuses(6, "short", three.look)
                self.assertEqual(state(two), (6, 1, 4, 2, 6))
                two.look()
                self.beyond(7, two.bare)
            self.assertEqual(state(one), (7, 1, 6, 1, 7))
            one.look()
            self.beyond(8, one.bare)
        self.assertEqual(state(cursor), (8, 1, 8, 0, 8))
        cursor.look()
        self.beyond(9, cursor.bare)

    def test_told_beyond_what_is_around(self):
        cursor = Cursor([0] * 5)
        with cursor.within(3):
            with cursor.within(2):
                with cursor.within(HUGE, limit="told"):
                    self.assertEqual(cursor.left, HUGE)
                    with cursor.within(HUGE - 1):
                        cursor.need(HUGE - 1)
                        cursor.look()
                        cursor.bare()
                        self.beyond(2, cursor.look)
                        self.beyond(2, cursor.bare)
                        self.assertEqual(state(cursor), (2, HUGE - 3, 2, 4, 2))
                    self.beyond(2, cursor.look)
                self.refuses(2, "short", cursor.look)
                self.beyond(2, cursor.bare)
            cursor.look()
            self.beyond(3, cursor.bare)
        with cursor.within(4, limit="told"):
            cursor.look()
            cursor.look()
            self.beyond(5, cursor.look)
        self.assertEqual(state(cursor), (5, 0, 5, 0, 5))

    def test_cut_goes_by_the_innermost_limit(self):
        cursor = Cursor([0] * 5)
        with cursor.within(2):
            self.assertEqual(cursor.within(3, limit="cut").end, 2)
            with cursor.within(8, limit="told"):
                self.assertEqual(cursor.within(9, limit="cut").end, 8)
                self.assertEqual(cursor.within(7, limit="cut").end, 7)
                self.assertEqual(cursor.within(8).end, 8)
                self.refuses(0, "nested", cursor.within, 9)

    def test_left_through_an_error(self):
        cursor = Cursor([0] * 5)
        with self.assertRaises(KeyError):
            with cursor.within(4):
                with cursor.within(3):
                    cursor.look()
                    raise KeyError(1)
        self.assertEqual(state(cursor), (1, 4, 1, 0, 1))
        with self.assertRaises(Beyond):
            with cursor.within(1):
                cursor.bare()
                cursor.bare()
        self.assertEqual(state(cursor), (2, 3, 2, 0, 2))
        cursor.look()

    def test_left_by_return(self):
        cursor = Cursor([0] * 5)

        def inner():
            with cursor.within(2) as same:
                return same.left

        self.assertEqual((inner(), cursor.depth), (2, 0))


class During(CursorTest):
    def test_returns_what_call_returns(self):
        cursor = Cursor([3, 4, 5])
        given = []

        def call(one):
            given.append(one)
            return [one.look(), one.left, one.depth]

        self.assertEqual(cursor.during(cursor.within(2), call), [3, 1, 1])
        self.assertIs(given[0], cursor)
        self.assertEqual(state(cursor), (1, 2, 1, 0, 1))
        self.assertIs(cursor.during(limit=cursor.within(0), call=lambda one: None), None)

    def test_no_limit(self):
        called = []
        for strange in (2, *strange_objects()):
            self.no_word(strange, Cursor([3]).during, strange, called.append)
        self.assertEqual(called, [])

    def test_behind_an_error(self):
        cursor = Cursor([3, 4, 5])

        def call(one):
            one.look()
            one.look()

        self.refuses(1, "short", cursor.during, cursor.within(1), call)
        self.assertEqual(state(cursor), (1, 2, 1, 0, 1))
        with self.assertRaises(ZeroDivisionError):
            cursor.during(cursor.within(1), lambda one: 1 // 0)
        self.assertEqual(cursor.depth, 0)

    def test_in_one_another(self):
        cursor = Cursor([1] * 6)

        def call(one):
            return [one.depth, one.during(one.within(2), lambda two: [two.depth, two.left]), one.depth]

        self.assertEqual(cursor.during(cursor.within(4), call), [1, [2, 2], 1])


class Behind(CursorTest):
    def test_skip(self):
        cursor = Cursor([0] * 6)
        for many, at in ((3, 3), (0, 3), (2, 5)):
            limit = cursor.within(many)
            with limit:
                pass
            self.assertIs(cursor.behind(limit), None)
            self.assertEqual((cursor.at, cursor.looks), (at, 0))

    def test_exact(self):
        cursor = Cursor([0] * 6)
        limit = cursor.within(2)
        with limit:
            cursor.look()
        self.refuses(1, "exact", cursor.behind, limit, rest="exact")
        self.assertEqual(state(cursor), (1, 5, 1, 0, 1))
        limit = cursor.within(2)
        with limit:
            cursor.look()
            cursor.look()
        cursor.behind(limit=limit, rest="exact")
        self.assertEqual(state(cursor), (3, 3, 3, 0, 3))

    def test_past(self):
        cursor = Cursor([0] * 6)
        with cursor.within(4):
            limit = cursor.within(5, limit="told")
            with limit:
                cursor.look()
            self.refuses(1, "past", cursor.behind, limit)
            self.refuses(1, "past", cursor.behind, limit, rest="skip")
            self.refuses(1, "exact", cursor.behind, limit, rest="exact")
            self.assertEqual(state(cursor), (1, 3, 1, 1, 1))
        limit = cursor.within(5, limit="told")
        with limit:
            pass
        cursor.behind(limit)
        self.assertEqual(cursor.at, 6)
        limit = cursor.within(1, limit="told")
        with limit:
            pass
        self.refuses(6, "past", cursor.behind, limit)

    def test_past_an_outer_limit_alone(self):
        cursor = Cursor([0] * 6)
        with cursor.within(2):
            with cursor.within(9, limit="told"):
                limit = cursor.within(3)
                with limit:
                    cursor.look()
                self.refuses(1, "past", cursor.behind, limit)
                limit = cursor.within(1)
                with limit:
                    pass
                cursor.behind(limit)
                self.assertEqual(state(cursor), (2, 7, 2, 2, 1))

    def test_wrong_values(self):
        cursor = Cursor([0] * 3)
        limit = cursor.within(2)
        with limit:
            pass
        for strange in (2, cursor, *strange_objects()):
            self.no_word(strange, cursor.behind, strange)
            self.no_word(strange, cursor.behind, strange, rest="other")
        for rest in ("", "nested", "Skip", b"skip", *strange_objects()):
            self.no_word(rest, cursor.behind, limit, rest=rest)
        with self.assertRaises(TypeError):
            cursor.behind(limit, "skip")
        self.assertEqual(state(cursor), (0, 3, 0, 0, 0))


if __name__ == "__main__":
    unittest.main()
