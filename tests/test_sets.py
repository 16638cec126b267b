import operator
import types
import unittest

from strange import strange_objects
from withinlimits.errors import NoSet, TooLarge
from withinlimits.sets import LengthSet

FAR = 60


def form(lengths):
    return (lengths.early, lengths.start, lengths.period, lengths.rests)


def is_member(n, early, start, period, rests):
    return n in early if n < start else n % period in rests


def small_sets():
    """Descriptions that are not all in their shortest form."""
    found = []
    for start in range(4):
        for bits in range(1 << start):
            early = [n for n in range(start) if bits >> n & 1]
            for period in range(1, 5):
                for chosen in range(1 << period):
                    found.append((early, start, period, [n for n in range(period) if chosen >> n & 1]))
    return found


def shortest(early, start, period, rests):
    """The shortest form, found by trying all smaller ones."""
    members = [is_member(n, early, start, period, rests) for n in range(FAR)]
    for least_period in range(1, period + 1):
        for least_start in range(start + 1):
            if all(members[n] == members[n + least_period] for n in range(least_start, FAR - least_period)):
                return ([n for n in range(least_start) if members[n]], least_start, least_period,
                        sorted(set(n % least_period for n in range(least_start, least_start + least_period)
                                       if members[n])))
    raise AssertionError


SMALL = small_sets()
FEW = SMALL[::23] + [([], 0, 1, []), ([], 0, 1, [0]), ([0], 7, 6, [1, 3]), ([2, 4], 9, 5, [0])]


class Creation(unittest.TestCase):
    def raises(self, error, *args, **named):
        with self.assertRaises(error) as caught:
            LengthSet(*args, **named)
        return caught.exception

    def test_defaults(self):
        self.assertEqual(form(LengthSet()), ([], 0, 1, []))

    def test_by_name(self):
        one = LengthSet(early=[1], start=4, period=3, rests=(2,))
        self.assertEqual(one, LengthSet([1], 4, 3, [2]))
        self.assertEqual(form(LengthSet(rests=[0])), ([], 0, 1, [0]))

    def test_lists_and_tuples(self):
        self.assertEqual(form(LengthSet((0, 3), 4, 4, (1, 2))), ([0, 3], 4, 4, [1, 2]))
        self.assertEqual(form(LengthSet([0, 3], 4, 4, [1, 2])), ([0, 3], 4, 4, [1, 2]))

    def test_wrong_starts(self):
        for start in (-1, -10 ** 30, True, False, None, 1.0, "0", [0], 10 ** 30 * -1):
            self.assertEqual(self.raises(NoSet, (), start).place, "start")

    def test_wrong_periods(self):
        for period in (0, -1, True, False, None, 1.0, "1", (1,)):
            self.assertEqual(self.raises(NoSet, (), 0, period).place, "period")

    def test_sizes_at_and_above_the_bounds(self):
        self.assertEqual(form(LengthSet([4999], 5000, 1, [])), ([4999], 5000, 1, []))
        self.assertEqual(LengthSet([], 0, 5000, [0]).period, 5000)
        self.assertEqual(self.raises(TooLarge, (), 5001).limit, "start")
        self.assertEqual(self.raises(TooLarge, (), 0, 5001).limit, "period")
        self.assertEqual(self.raises(TooLarge, (), 10 ** 30).limit, "start")
        self.assertEqual(self.raises(TooLarge, (), 0, 10 ** 30).limit, "period")

    def test_wrong_early(self):
        for early in ([5], [-1], [True], [False], [1, 1], [2, 1], [None], [1.0], ["1"], None, 3, "12", range(2), {1},
                      {1: 1}, (0, 10 ** 30), [[1]], (n for n in (1, 2))):
            self.assertEqual(self.raises(NoSet, early, 5, 1, []).place, "early", early)
        self.assertEqual(self.raises(NoSet, [0]).place, "early")
        self.assertEqual(form(LengthSet([0, 4], 5)), ([0, 4], 5, 1, []))

    def test_wrong_rests(self):
        for rests in ([3], [-1], [True], [1, 1], [2, 1], [None], [0.0], None, 3, "12", range(2), {1}):
            self.assertEqual(self.raises(NoSet, [], 5, 3, rests).place, "rests", rests)
        self.assertEqual(form(LengthSet([], 0, 3, [0, 2])), ([], 0, 3, [0, 2]))

    def test_strange_arguments(self):
        for strange in strange_objects():
            self.assertEqual(self.raises(NoSet, (), strange).place, "start")
            self.assertEqual(self.raises(NoSet, (), 0, strange).place, "period")
            self.assertEqual(self.raises(NoSet, [strange], 5).place, "early")
            self.assertEqual(self.raises(NoSet, [], 0, 5, (strange,)).place, "rests")

    def test_order_of_errors(self):
        wrong = dict(early=None, start=-1, period=0, rests=None)
        self.assertEqual(self.raises(NoSet, **wrong).place, "start")
        self.assertEqual(self.raises(TooLarge, **{**wrong, "start": 5001}).limit, "start")
        self.assertEqual(self.raises(NoSet, **{**wrong, "start": 5000}).place, "period")
        self.assertEqual(self.raises(TooLarge, **{**wrong, "start": 5000, "period": 5001}).limit, "period")
        self.assertEqual(self.raises(NoSet, **{**wrong, "start": 5000, "period": 5000}).place, "early")
        self.assertEqual(self.raises(NoSet, [], 5000, 5000, None).place, "rests")

    def test_later_changes_have_no_effect(self):
        early, rests = [1], [2]
        one = LengthSet(early, 3, 4, rests)
        early.append(2)
        rests.clear()
        self.assertEqual(form(one), ([1], 3, 4, [2]))
        self.assertEqual((early, rests), ([1, 2], []))
        one.early.append(9)
        one.rests.append(9)
        self.assertEqual(form(one), ([1], 3, 4, [2]))
        self.assertIsNot(one.early, one.early)
        self.assertIsNot(one.rests, one.rests)


class ShortestForm(unittest.TestCase):
    def test_examples(self):
        for told, kept in (
            (([], 0, 6, [0, 2, 4]), ([], 0, 2, [0])),
            (([0, 2], 4, 2, [0]), ([], 0, 2, [0])),
            (([0, 2], 5, 2, [0]), ([0, 2], 5, 2, [0])),
            (([1], 4, 2, [0]), ([1], 3, 2, [0])),
            (([], 9, 4, []), ([], 0, 1, [])),
            (([1], 9, 4, []), ([1], 2, 1, [])),
            (([], 0, 4, [0, 1, 2, 3]), ([], 0, 1, [0])),
            (([0, 1, 2], 3, 4, [0, 1, 2, 3]), ([], 0, 1, [0])),
            (([1, 2], 3, 2, [0, 1]), ([], 1, 1, [0])),
            (([], 5, 1, [0]), ([], 5, 1, [0])),
            (([4], 5, 1, [0]), ([], 4, 1, [0])),
            (([], 0, 5000, list(range(0, 5000, 2))), ([], 0, 2, [0])),
            ((list(range(5000)), 5000, 5000, list(range(5000))), ([], 0, 1, [0])),
        ):
            self.assertEqual(form(LengthSet(*told)), kept, told)

    def test_against_all_smaller_descriptions(self):
        for told in SMALL:
            self.assertEqual(form(LengthSet(*told)), shortest(*told), told)

    def test_properties_are_of_integers(self):
        one = LengthSet([0], 2, 3, [1])
        self.assertEqual([kind.__name__ for kind in map(lambda x: x.__class__, form(one))],
                         ["list", "int", "int", "list"])


class Members(unittest.TestCase):
    def test_in(self):
        for told in SMALL:
            one = LengthSet(*told)
            self.assertEqual([n in one for n in range(FAR)], [is_member(n, *told) for n in range(FAR)])

    def test_in_for_any_object(self):
        full = LengthSet.full()
        for strange in strange_objects() + [-1, -10 ** 30]:
            self.assertIs(strange in full, False)
        self.assertIs(10 ** 30 in full, True)
        self.assertIs(10 ** 30 in LengthSet([], 0, 2, [1]), False)
        self.assertIs(0 in full, True)

    def test_bool(self):
        for told in SMALL:
            self.assertIs(bool(LengthSet(*told)), any(is_member(n, *told) for n in range(FAR)))

    def test_least(self):
        for told in SMALL:
            members = [n for n in range(FAR) if is_member(n, *told)]
            self.assertEqual(LengthSet(*told).least(), members[0] if members else None)
        self.assertEqual(LengthSet([], 4999, 5000, [4998]).least(), 9998)

    def test_below(self):
        one = LengthSet([1], 4, 3, [2])
        self.assertIsInstance(one.below(9), types.GeneratorType)
        self.assertEqual(list(one.below(9)), [1, 5, 8])
        self.assertEqual(list(one.below(8)), [1, 5])
        self.assertEqual(list(one.below(bound=0)), [])
        self.assertEqual(len(list(LengthSet.full().below(10000))), 10000)

    def test_below_wrong_bounds(self):
        for bound in (-1, 10001, 10 ** 30, True, False, None, 1.0, "3"):
            iterated = LengthSet.full().below(bound)
            with self.assertRaises(NoSet) as caught:
                next(iterated)
            self.assertEqual(caught.exception.place, "bound")


class Operators(unittest.TestCase):
    def test_pairs_of_sets(self):
        for one in FEW:
            for two in FEW:
                a, b = LengthSet(*one), LengthSet(*two)
                for name, test in (("or_", lambda x, y: x or y), ("and_", lambda x, y: x and y),
                                   ("sub", lambda x, y: x and not y)):
                    made = getattr(operator, name)(a, b)
                    wanted = [test(is_member(n, *one), is_member(n, *two)) for n in range(FAR)]
                    self.assertEqual([n in made for n in range(FAR)], wanted, (one, name, two))
                    self.assertEqual(form(made), form(LengthSet(*form(made))))
                members = [(is_member(n, *one), is_member(n, *two)) for n in range(FAR)]
                self.assertIs(a <= b, all(y or not x for x, y in members))
                self.assertIs(a == b, all(x == y for x, y in members))
                self.assertIs(a != b, any(x != y for x, y in members))
                self.assertEqual((form(a), form(b)), (form(LengthSet(*one)), form(LengthSet(*two))))

    def test_invert(self):
        for told in SMALL:
            made = ~LengthSet(*told)
            self.assertEqual([n in made for n in range(FAR)], [not is_member(n, *told) for n in range(FAR)])
            self.assertEqual(~made, LengthSet(*told))

    def test_equal(self):
        self.assertTrue(LengthSet([0], 1, 2, [0]) == LengthSet([], 0, 4, (0, 2)))
        for strange in strange_objects():
            self.assertIs(LengthSet() == strange, False)
            self.assertIs(LengthSet() != strange, True)
        self.assertIs(LengthSet([], 0, 97, [1]) == LengthSet([], 0, 89, [1]), False)

    def test_too_large_periods(self):
        a, b = LengthSet([], 0, 71, [1]), LengthSet([], 0, 73, [1])
        for name in ("or_", "and_", "sub", "le"):
            with self.assertRaises(TooLarge) as caught:
                getattr(operator, name)(a, b)
            self.assertEqual(caught.exception.limit, "period")
        a, b = LengthSet([], 0, 5000, [1]), LengthSet([], 0, 625, [1])
        self.assertEqual((a | b).period, 625)
        self.assertIs(a <= b, True)
        self.assertEqual((a - b), LengthSet())
        a, b = LengthSet([], 0, 50, [1]), LengthSet([], 5000, 100, [1])
        self.assertEqual(((a | b).start, (a | b).period), (0, 50))

    def test_add(self):
        for told in SMALL[::5]:
            for k in (0, 1, 2, 3, 7):
                one = LengthSet(*told)
                wanted = [n >= k and is_member(n - k, *told) for n in range(FAR)]
                self.assertEqual([n in one + k for n in range(FAR)], wanted)
                self.assertEqual(form(one + k), form(k + one))
                self.assertEqual(form(one + k), form(LengthSet(*form(one + k))))

    def test_subtract_number(self):
        for told in SMALL[::5]:
            for k in (0, 1, 2, 3, 7, 10 ** 30 * 12):
                one = LengthSet(*told)
                wanted = [is_member(n + k, *told) for n in range(FAR)]
                self.assertEqual([n in one - k for n in range(FAR)], wanted)
                self.assertEqual(form(one - k), form(LengthSet(*form(one - k))))

    def test_shifts_below_zero(self):
        for one in (LengthSet(), LengthSet.full(), LengthSet.only(4990)):
            for call in (lambda: one + -1, lambda: -1 + one, lambda: one - -1, lambda: one + -10 ** 30):
                with self.assertRaises(NoSet) as caught:
                    call()
                self.assertEqual(caught.exception.place, "shift")

    def test_shifts_too_large(self):
        for one, most in ((LengthSet(), 5000), (LengthSet.full(), 5000), (LengthSet.only(9), 4990),
                          (LengthSet([], 0, 2, [1]), 5000)):
            self.assertEqual(one + most - most, one)
            for call in (lambda: one + (most + 1), lambda: (most + 1) + one, lambda: one + 10 ** 30):
                with self.assertRaises(TooLarge) as caught:
                    call()
                self.assertEqual(caught.exception.limit, "start")

    def test_other_objects(self):
        one = LengthSet.full()
        for strange in strange_objects():
            for name in ("or_", "and_", "sub", "add", "le"):
                with self.assertRaises(TypeError):
                    getattr(operator, name)(one, strange)
                with self.assertRaises(TypeError):
                    getattr(operator, name)(strange, one)
        for call in (lambda: one | 1, lambda: one & 1, lambda: one <= 1, lambda: 1 - one, lambda: one + one,
                     lambda: 1 | one, lambda: one < one, lambda: one + True, lambda: one - True):
            with self.assertRaises(TypeError):
                call()

    def test_document(self):
        a, b = LengthSet([], 0, 2, [0]), LengthSet([], 0, 3, [0])
        self.assertEqual([(a & b).period, (1 + a).rests, (~a).rests, 4 in a, a <= b, list((a | b).below(8))],
                         [6, [1], [1], True, False, [0, 2, 3, 4, 6]])


class StaticMethods(unittest.TestCase):
    def test_none_and_full(self):
        self.assertEqual(form(LengthSet.none()), ([], 0, 1, []))
        self.assertEqual(form(LengthSet.full()), ([], 0, 1, [0]))
        self.assertEqual(LengthSet().none(), LengthSet())

    def test_from_least(self):
        self.assertEqual(form(LengthSet.from_least(0)), ([], 0, 1, [0]))
        self.assertEqual(form(LengthSet.from_least(number=4)), ([], 4, 1, [0]))
        self.assertEqual(LengthSet.from_least(5000).least(), 5000)
        for number in (-1, True, None, "1", 2.0):
            with self.assertRaises(NoSet) as caught:
                LengthSet.from_least(number)
            self.assertEqual(caught.exception.place, "start")
        for number in (5001, 10 ** 30):
            with self.assertRaises(TooLarge) as caught:
                LengthSet.from_least(number)
            self.assertEqual(caught.exception.limit, "start")

    def test_only(self):
        self.assertEqual(form(LengthSet.only()), ([], 0, 1, []))
        self.assertEqual(form(LengthSet.only(0)), ([0], 1, 1, []))
        self.assertEqual(form(LengthSet.only(7, 2, 7, 0, 2)), ([0, 2, 7], 8, 1, []))
        self.assertEqual(form(LengthSet.only(4999)), ([4999], 5000, 1, []))

    def test_only_wrong(self):
        for numbers in ((-1,), (True,), (1, None), (10 ** 30, "1"), (5000, -1), ([1],), (1.0,), ((),)):
            with self.assertRaises(NoSet) as caught:
                LengthSet.only(*numbers)
            self.assertEqual(caught.exception.place, "number")
        for numbers in ((5000,), (1, 5000, 2), (10 ** 30,)):
            with self.assertRaises(TooLarge) as caught:
                LengthSet.only(*numbers)
            self.assertEqual(caught.exception.limit, "start")


if __name__ == "__main__":
    unittest.main()
