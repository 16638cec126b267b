import itertools
import operator
import random
import unittest

from strange import EqualToAll, strange_objects
from withinlimits.errors import NoSet, TooLarge
from withinlimits.fronts import Front
from withinlimits.sets import LengthSet

FULL, NONE, ONLY, FROM = LengthSet.full(), LengthSet.none(), LengthSet.only, LengthSet.from_least
EVEN = LengthSet((), 0, 2, (0,))
LATE = LengthSet((1, 2), 4, 3, (0, 2))
FEW = (NONE, FULL, ONLY(0), ONLY(2, 5), EVEN, FROM(3), LATE)
# Places are tried up to SURE, with all numbers below FAR.
SURE = 40
FAR = 700


def fronts(most=3):
    """Fronts of one to so many sets."""
    return [Front(*chosen) for many in range(1, most + 1) for chosen in itertools.product(FEW, repeat=many)]


def drawn_set(draw, most):
    start = draw.randrange(most + 1)
    period = draw.randrange(1, most + 1)
    return LengthSet(sorted(draw.sample(range(start), draw.randrange(start + 1))), start, period,
                     sorted(draw.sample(range(period), draw.choice((0, 1, 1, period // 2, period)))))


def drawn_fronts(seed, many, most=12):
    draw = random.Random(seed)
    return [Front(*[drawn_set(draw, most) for place in range(draw.randrange(1, 4))]) for one in range(many)]


def members(lengths):
    """The members below SURE."""
    return list(lengths.below(SURE))


def passed_by_words(front, lengths):
    """For each place the numbers below SURE that are left there behind n more cells, for all n of the set."""
    found = [0] * front.period
    for r, one in enumerate(front.sets()):
        mask = sum(1 << a for a in one.below(FAR))
        for n in lengths.below(FAR - SURE):
            found[(r + n) % front.period] |= mask >> n
    return [[a for a in range(SURE) if mask >> a & 1] for mask in found]


class Making(unittest.TestCase):
    def test_sets_and_period(self):
        for many in (1, 2, 3, 4, 7):
            sets = FEW[:many]
            front = Front(*sets)
            self.assertIsInstance(front.sets(), tuple)
            self.assertEqual(front.sets(), sets)
            self.assertEqual(front.period, many)

    def test_no_fronts(self):
        wrong = [(), (None,), (FULL, None), (1,), (FULL, 1), (0, FULL), ([FULL],), ((FULL,),), ((FULL, NONE),),
                 ({0: FULL},), (Front(FULL),), (FULL, Front(FULL)), ([],), (FULL, [])]
        wrong += [(thing,) for thing in strange_objects()] + [(FULL, thing, NONE) for thing in strange_objects()]
        for sets in wrong:
            with self.assertRaises(NoSet) as caught:
                Front(*sets)
            self.assertEqual(caught.exception.place, "front")

    def test_begin(self):
        for lengths in FEW:
            for period in (1, 2, 3, 6):
                front = Front.begin(lengths, period)
                self.assertEqual(front.sets(), (lengths,) + (NONE,) * (period - 1))
                self.assertEqual(front.period, period)
        self.assertEqual(Front.begin(period=2, lengths=EVEN), Front(EVEN, NONE))
        self.assertEqual(Front(FULL).begin(EVEN, 2), Front(EVEN, NONE))
        for thing in strange_objects():
            with self.assertRaises(NoSet) as caught:
                Front.begin(thing, 2)
            self.assertEqual(caught.exception.place, "front")


class Asking(unittest.TestCase):
    def test_all_lefts(self):
        for front in fronts() + drawn_fronts(1, 60):
            wanted = {a for one in front.sets() for a in members(one)}
            self.assertIsInstance(front.all_lefts(), LengthSet)
            self.assertEqual(members(front.all_lefts()), sorted(wanted))
        self.assertEqual(Front(ONLY(1), EVEN, ONLY(7)).all_lefts(), EVEN | ONLY(1, 7))

    def test_in(self):
        for front in fronts(2) + drawn_fronts(2, 20):
            for k in range(SURE):
                self.assertIs(k in front, any(k in one for one in front.sets()))
            for k in (-1, -2, -10 ** 30):
                self.assertIs(k in front, False)
        whole = Front(NONE, FULL)
        self.assertIs(10 ** 30 in whole, True)
        for thing in strange_objects():
            self.assertIs(thing in whole, False)
        for thing in (whole, FULL, (0,), "0", 0.0):
            self.assertIs(thing in whole, False)

    def test_bool(self):
        for front in fronts():
            self.assertIs(bool(front), any(bool(one) for one in front.sets()))
        self.assertIs(bool(Front(NONE, NONE, NONE)), False)
        self.assertIs(bool(Front(NONE, NONE, ONLY(4000))), True)

    def test_equal(self):
        some = fronts(2)
        for one in some:
            for other in some:
                self.assertIs(one == other, one.sets() == other.sets())
                self.assertIs(one != other, one.sets() != other.sets())
        self.assertEqual(Front(LengthSet((0,), 1, 1, (0,)), EVEN), Front(FULL, LengthSet((0,), 2, 2, (0,))))
        self.assertNotEqual(Front(EVEN, FULL), Front(FULL, EVEN))
        self.assertNotEqual(Front(EVEN), Front(EVEN, NONE))
        for thing in strange_objects() + [FULL, (FULL,), EqualToAll()]:
            self.assertIs(Front(FULL) == thing, False)
            self.assertIs(Front(FULL) != thing, True)


class Reading(unittest.TestCase):
    def test_read(self):
        for front in fronts() + drawn_fronts(3, 60):
            behind = front.read()
            self.assertEqual(behind.period, front.period)
            for place, one in enumerate(behind.sets()):
                ahead = front.sets()[(place - 1) % front.period]
                self.assertEqual(members(one), [a - 1 for a in ahead.below(SURE + 1) if a > 0])
        self.assertEqual(Front(ONLY(0, 3), FROM(2), EVEN).read(), Front(EVEN - 1, ONLY(2), FROM(1)))
        self.assertEqual(Front(ONLY(0)).read(), Front(NONE))

    def test_passed(self):
        for front in fronts(2) + [Front(FULL, EVEN, NONE), Front(NONE, NONE, LATE), Front(LATE, ONLY(9), EVEN)]:
            for lengths in FEW:
                behind = front.passed(lengths)
                self.assertEqual(behind.period, front.period)
                self.assertEqual([members(one) for one in behind.sets()], passed_by_words(front, lengths))

    def test_passed_drawn(self):
        draw = random.Random(5)
        for front in drawn_fronts(4, 150):
            lengths = drawn_set(draw, 12)
            behind = front.passed(lengths=lengths)
            self.assertEqual([members(one) for one in behind.sets()], passed_by_words(front, lengths))

    def test_passed_by_one_cell_is_read(self):
        for front in fronts() + drawn_fronts(6, 40):
            self.assertEqual(front.passed(ONLY(1)), front.read())
            self.assertEqual(front.passed(ONLY(0)), front)
            self.assertEqual(front.passed(ONLY(2)) | front.passed(ONLY(5)), front.passed(ONLY(2, 5)))
            self.assertIs(bool(front.passed(NONE)), False)

    def test_more_sets(self):
        front = Front(EVEN, NONE, ONLY(7), FROM(3), NONE, LATE)
        for lengths in FEW:
            self.assertEqual([members(one) for one in front.passed(lengths).sets()], passed_by_words(front, lengths))
        self.assertEqual(front.read().sets()[0], LATE - 1)

    def test_the_front_stays(self):
        sets = (LATE, EVEN, ONLY(3))
        front = Front(*sets)
        for call in (front.all_lefts, front.read, lambda: front.passed(EVEN), lambda: front | Front(FULL, FULL, FULL),
                     lambda: front & NONE, lambda: front <= front, lambda: 3 in front, lambda: bool(front)):
            call()
            self.assertEqual(front, Front(*sets))


class Signs(unittest.TestCase):
    def test_or_and_le(self):
        some = fronts(2)
        for one in some[::3]:
            for other in some:
                if one.period != other.period:
                    for name in ("or_", "le"):
                        with self.assertRaises(TypeError):
                            getattr(operator, name)(one, other)
                    continue
                pairs = list(zip(one.sets(), other.sets()))
                self.assertEqual((one | other).sets(), tuple(mine | yours for mine, yours in pairs))
                self.assertIs(one <= other, all(mine <= yours for mine, yours in pairs))
        self.assertIs(Front(EVEN, NONE) <= Front(NONE, EVEN), False)
        self.assertIs(Front(NONE, EVEN) <= Front(FULL, EVEN), True)

    def test_and(self):
        for front in fronts(2):
            for lengths in FEW:
                self.assertEqual((front & lengths).sets(), tuple(one & lengths for one in front.sets()))

    def test_other_objects(self):
        front = Front(FULL, EVEN)
        for thing in strange_objects() + [FULL]:
            for name in ("or_", "le"):
                for pair in ((front, thing), (thing, front)):
                    with self.assertRaises(TypeError):
                        getattr(operator, name)(*pair)
        for thing in strange_objects() + [front]:
            for pair in ((front, thing), (thing, front)):
                with self.assertRaises(TypeError):
                    operator.and_(*pair)
        for name in ("and_", "sub", "add", "lt"):
            with self.assertRaises(TypeError):
                getattr(operator, name)(FULL if name == "and_" else front, front)


class Sizes(unittest.TestCase):
    def test_never_too_large(self):
        steep = [LengthSet((), 12, period, (0,)) for period in (7, 8, 9, 10, 11, 12)]
        for sets in itertools.product(steep, repeat=3):
            front = Front(*sets)
            self.assertEqual(members(front.all_lefts()), sorted({a for one in sets for a in members(one)}))
        for sets in itertools.permutations(steep, 3):
            for lengths in (steep[0], steep[4]):
                behind = Front(*sets).passed(lengths)
                self.assertEqual(behind.period, 3)
        front = Front(LengthSet((), 12, 11, (0,)), LengthSet((), 12, 10, (3,)), LengthSet((), 12, 9, (1, 5)))
        lengths = LengthSet((2,), 12, 7, (1,))
        self.assertEqual([members(one) for one in front.passed(lengths).sets()], passed_by_words(front, lengths))

    def test_too_large(self):
        front = Front(LengthSet((), 0, 71, (0,)), LengthSet((), 0, 73, (0,)))
        for call in (front.all_lefts, lambda: front.passed(ONLY(1))):
            with self.assertRaises(TooLarge) as caught:
                call()
            self.assertEqual(caught.exception.limit, "period")
        self.assertEqual(front.read().sets()[1], LengthSet((), 0, 71, (70,)))
        for front, lengths in ((Front.begin(FULL, 6000), FULL), (Front.begin(FULL, 500), LengthSet((), 0, 4999, (0,)))):
            with self.assertRaises(TooLarge) as caught:
                front.passed(lengths)
            self.assertEqual(caught.exception.limit, "period")


if __name__ == "__main__":
    unittest.main()
