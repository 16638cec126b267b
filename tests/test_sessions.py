import random
import unittest

from drawn import all_rows, drawn_readers
from made import BARE, CELL, GREAT, NOTHING, counted, fill, if_left, pad, row, times, within
from strange import EqualToAll, strange_objects
from withinlimits.errors import LimitError, NoChange, NoPart, NoRow, NoWord, TooLarge
from withinlimits.lengths import Verdict, lengths_of, verdict_of
from withinlimits.menus import changed
from withinlimits.parts import is_part, replaced, subparts
from withinlimits.reading import Reader
from withinlimits.sessions import Session, Trial
from withinlimits.work import idle_of


def need(many):
    return ("need", many)


LOOK, OTHER = ("look", (0,)), ("look", (1,))
START = Reader(row(BARE, BARE, NOTHING))


class Own(Exception):
    pass


class Steps:
    """A plain list of the steps of a session, to hold against it."""

    def __init__(self, reader):
        self.readers = [reader]
        self.entries = []

    def copied(self):
        other = Steps(None)
        other.readers, other.entries = list(self.readers), list(self.entries)
        return other

    def add(self, reader, entry):
        self.readers.append(reader)
        self.entries.append(entry)

    def undo(self):
        if self.entries:
            self.readers.pop()
            self.entries.pop()


class Judged(unittest.TestCase):
    def check(self, session, steps):
        self.assertEqual(session.reader, steps.readers[-1])
        self.assertEqual(len(session), len(steps.entries))
        self.assertEqual(session.history(), steps.entries)
        self.assertIsInstance(session.history(), list)
        made = [change for entry in steps.entries if entry != "reader" and entry[:1] != ("part",) for change in entry]
        for change in (LOOK, OTHER, ("need", (), 1), ("need", (0,), 2), ("part", ()), "reader", *made):
            self.assertIs(change in session, change in made)

    def leaves(self, session, steps, error, call, *arguments, **named):
        """The error that a call raises, behind which the session is as it was."""
        with self.assertRaises(error) as caught:
            call(*arguments, **named)
        self.check(session, steps)
        return caught.exception


def drawn_change(draw, reader):
    path, part = draw.choice(subparts(reader.part))
    return draw.choice((("look", path), ("need", path, draw.randrange(1, 4)), ("ahead", path, draw.randrange(3)),
                        ("most", path, draw.randrange(4)), ("limit", path, draw.choice(("nested", "cut", "told"))),
                        ("rest", path, draw.choice(("skip", "exact"))), ("look", path + (0,))))


class Drawn(Judged):
    PARTS = (CELL, BARE, NOTHING, ("cell", 3, 1, "bare"), fill(BARE), need(2), None, ("row", CELL))

    def step(self, draw, session, steps):
        """One drawn step of a session, made with the plain list too."""
        now = steps.readers[-1]
        word = draw.randrange(9)
        if word in (0, 1):
            other = draw.choice((now, Reader(now.part), START, Reader(fill(BARE))))
            if word == 0:
                session.reader = other
            else:
                self.assertIsNone(session.put(other))
            steps.add(other, "reader")
        elif word in (2, 3, 4):
            changes = tuple(drawn_change(draw, now) for time in range(1 if word == 4 else draw.randrange(3)))
            try:
                other = changed(now, *changes)
            except NoChange as wanted:
                found = self.leaves(session, steps, NoChange, session.apply, *changes)
                self.assertEqual(found.value, wanted.value)
                return
            if word == 4:
                session += changes[0]
            else:
                self.assertIsNone(session.apply(*changes))
            steps.add(other, changes)
        elif word == 5:
            path, part = draw.choice(subparts(now.part))
            self.assertEqual(session[path], part)
            other = draw.choice(self.PARTS)
            whole = replaced(now.part, path, other)
            if is_part(whole):
                session[path] = other
                steps.add(Reader(whole), ("part", path))
            else:
                self.leaves(session, steps, NoPart, session.__setitem__, path, other)
        elif word == 6:
            self.assertIs(session.undo(), len(steps.entries) > 0)
            steps.undo()
        elif word == 7:
            self.leaves(session, steps, NoWord, session.put, now.part)
        else:
            cells = draw.choice(all_rows(2, range(3)))
            self.assertEqual(session(cells), now(cells))

    def test_steps(self):
        draw = random.Random(151)
        for reader in drawn_readers(152, 60):
            session, steps = Session(reader), Steps(reader)
            for time in range(15):
                self.step(draw, session, steps)
                self.check(session, steps)
            self.assertEqual(session.verdict().all_lengths, lengths_of(steps.readers[-1], "beyond"))
            for many in range(len(steps.entries), 0, -1):
                self.assertEqual(len(session), many)
                self.assertIs(session.undo(), True)
                steps.undo()
                self.check(session, steps)
            self.assertIs(session.undo(), False)
            self.check(session, steps)

    def trials(self, draw, session, steps, deep):
        """A drawn trial, in which there may be others, and what the plain list is behind it."""
        ahead = steps.copied()
        keeps, fails = draw.random() < 0.6, draw.random() < 0.3
        trial = session.trial()
        if draw.random() < 0.3:
            # It goes by the moment when it was made, not by that of its block.
            self.step(draw, session, steps)
        try:
            with trial as same:
                self.assertIs(same, trial)
                if keeps and draw.random() < 0.5:
                    trial.keep()
                for time in range(draw.randrange(5)):
                    if deep > 1 and draw.random() < 0.4:
                        steps = self.trials(draw, session, steps, deep - 1)
                    else:
                        self.step(draw, session, steps)
                    self.check(session, steps)
                if keeps:
                    trial.keep()
                if fails:
                    raise draw.choice((Own(), NoWord(1), KeyError(1)))
        except (Own, NoWord, KeyError):
            self.assertTrue(fails)
        behind = steps if keeps and not fails else ahead
        self.check(session, behind)
        return behind.copied()

    def test_trials(self):
        draw = random.Random(153)
        for reader in drawn_readers(154, 150):
            session, steps = Session(reader), Steps(reader)
            for time in range(4):
                self.step(draw, session, steps)
                steps = self.trials(draw, session, steps, 3)
            while session.undo():
                steps.undo()
                self.check(session, steps)
            self.check(session, steps)


class Sessions(Judged):
    def test_a_new_one(self):
        session = Session(reader=START)
        self.check(session, Steps(START))
        self.assertIs(session.undo(), False)
        for thing in strange_objects() + [START.part]:
            with self.assertRaises(NoWord) as caught:
                Session(thing)
            self.assertIs(caught.exception.value, thing)

    def test_readers(self):
        session, steps = Session(START), Steps(START)
        session.reader = START
        steps.add(START, "reader")
        self.check(session, steps)
        session.put(reader=Reader(CELL))
        steps.add(Reader(CELL), "reader")
        self.check(session, steps)
        for thing in strange_objects() + [CELL]:
            self.assertIs(self.leaves(session, steps, NoWord, session.put, thing).value, thing)
            self.assertIs(self.leaves(session, steps, NoWord, setattr, session, "reader", thing).value, thing)
        session.undo()
        steps.undo()
        self.check(session, steps)
        self.assertEqual(session.reader, START)

    def test_changes(self):
        session, steps = Session(START), Steps(START)
        self.assertIsNone(session.apply())
        steps.add(START, ())
        self.check(session, steps)
        session.apply(LOOK, ("need", (), 1))
        steps.add(Reader(row(need(1), row(CELL, BARE, NOTHING))), (LOOK, ("need", (), 1)))
        self.check(session, steps)
        same = session
        session += ("look", (1, 1))
        self.assertIs(session, same)
        steps.add(Reader(row(need(1), row(CELL, CELL, NOTHING))), (("look", (1, 1)),))
        self.check(session, steps)
        self.assertEqual(session.history(), [(), (LOOK, ("need", (), 1)), (("look", (1, 1)),)])
        for thing in strange_objects() + [("look", ()), ("look", (0,)), ("need", (), 0), ["look", (1, 1)]]:
            self.assertIs(self.leaves(session, steps, NoChange, session.apply, thing).value, thing)
            self.assertIs(self.leaves(session, steps, NoChange, session.apply, ("look", (1, 0)), thing).value, thing)
            self.assertIs(self.leaves(session, steps, NoChange, session.__iadd__, thing).value, thing)
        twice = (("need", (0,), 1), ("need", (0,), 2))
        self.assertEqual(self.leaves(session, steps, NoChange, session.apply, *twice).value, twice[1])
        session = Session(Reader(within(need(2))))
        error = self.leaves(session, Steps(session.reader), NoChange, session.apply, ("limit", (), "told"), ("most", (), 1))
        self.assertEqual(error.value, (("limit", (), "told"), ("most", (), 1)))
        self.assertIs(type(error.__cause__), NoPart)
        error = self.leaves(session, Steps(session.reader), NoChange, session.__iadd__, ("limit", (), "told"))
        self.assertEqual(error.value, (("limit", (), "told"),))

    def test_parts(self):
        part = row(BARE, within(fill(CELL), "told"), counted(CELL, ahead=0))
        session, steps = Session(Reader(part)), Steps(Reader(part))
        for path, one in subparts(part):
            self.assertEqual(session[path], one)
        session[(1, 0, 0)] = times(2, BARE)
        steps.add(Reader(replaced(part, (1, 0, 0), times(2, BARE))), ("part", (1, 0, 0)))
        self.check(session, steps)
        session[(2,)] = session[(2,)]
        steps.add(steps.readers[-1], ("part", (2,)))
        self.check(session, steps)
        session[()] = fill(BARE)
        steps.add(Reader(fill(BARE)), ("part", ()))
        self.check(session, steps)
        session.undo()
        steps.undo()
        for path in ((3,), (-1,), (0, 0), (False,), (True,), (1, False), (0.0,), ("0",), [0], [], None, 0, "0", "", (GREAT,),
                     (1, 0, 0, 0, 0)):
            self.assertIs(self.leaves(session, steps, NoWord, session.__getitem__, path).value, path)
            for other in (CELL, None, BARE):
                self.assertIs(self.leaves(session, steps, NoWord, session.__setitem__, path, other).value, path)
        for thing in strange_objects():
            self.assertEqual(self.leaves(session, steps, NoPart, session.__setitem__, (0,), thing).path, (0,))
            if not isinstance(thing, tuple):
                self.assertIs(self.leaves(session, steps, NoWord, session.__getitem__, thing).value, thing)
                self.assertIs(self.leaves(session, steps, NoWord, session.__setitem__, thing, None).value, thing)
        for path, other, wrong in (((1, 0), need(1), (1,)), ((2, 0), fill(CELL), (2,)), ((0,), ("cell", 2, 1, "bare"), (0,)),
                                   ((0,), row(CELL, fill(None)), (0, 1, 0)), ((1, 0, 0), within(CELL), (1,))):
            self.assertEqual(self.leaves(session, steps, NoPart, session.__setitem__, path, other).path, wrong)

    def test_outcomes_and_verdicts(self):
        session = Session(START)
        self.assertEqual(session([1]), START([1]))
        self.assertEqual(session(row=[1]).told(), ("beyond", 1, "", (), 1, 0))
        for cells, index in (((1,), None), ([True], 0), (None, None), ([1, -1], 1)):
            self.assertEqual(self.leaves(session, Steps(START), NoRow, session, cells).index, index)
        verdict = session.verdict()
        self.assertIsInstance(verdict, Verdict)
        self.assertEqual((bool(verdict), verdict.at, verdict.row), (False, 0, []))
        session.apply(LOOK, OTHER)
        self.assertIs(bool(session.verdict()), True)
        self.assertEqual(session([1]).told(), ("refused", 1, "short", (), 1, 0))
        part = CELL
        for turn in range(6):
            part = counted(part, most=9)
        session.put(Reader(part))
        with self.assertRaises(TooLarge):
            session.verdict()

    def test_in(self):
        session = Session(Reader(row(BARE, counted(CELL), within(CELL))))
        made = [("look", (0,)), ("need", (), 1), ("ahead", (1,), 0), ("limit", (2,), "cut"), ("most", (2,), 1)]
        session.apply(made[0], made[2])
        session.apply(made[3])
        session += made[4]
        session.apply(made[1])
        for change in made:
            self.assertIs(change in session, True)
            self.assertIs(list(change) in session, False)
            self.assertIs(change[:-1] in session, False)
            self.assertIs(change + (1,) in session, False)
        for thing in strange_objects() + ["look", "reader", (), (0,), ("look", (1,)), ("look", (False,)), ("look", [0]),
                                          ("need", (), True), ("need", (), 1.0), ("need", (), 2), ("ahead", (True,), 0),
                                          ("ahead", (1,), False), ("ahead", (1,), 0.0), ("limit", (2,), "nested"),
                                          ("most", (2,), True), ("most", (2.0,), 1), (made[0],), (made[0], made[2]),
                                          ("Look", (0,)), (EqualToAll(), EqualToAll()), EqualToAll(),
                                          ("look", EqualToAll()), ("need", (), EqualToAll()), (EqualToAll(), (0,))]:
            self.assertIs(thing in session, False)
        session.undo()
        self.assertIs(made[1] in session, False)
        self.assertIs(made[4] in session, True)
        session.reader = START
        session[(0,)] = CELL
        self.assertIs(made[4] in session, True)
        self.assertIs(("part", (0,)) in session, False)
        for thing in [(letter,) for letter in "reader"] + [("r", "e"), ("e", "a", "d"), "r", ("part",), ("part", 0)]:
            self.assertIs(thing in session, False)

    def test_later_changes_of_a_history(self):
        session = Session(START)
        session.apply(LOOK)
        history = session.history()
        history.append("reader")
        history[0] = ()
        self.assertEqual(session.history(), [(LOOK,)])
        self.assertEqual(len(session), 1)
        self.assertIs(LOOK in session, True)

    def test_sessions_are_not_iterated_over(self):
        with self.assertRaises(TypeError):
            list(Session(START))


class Trials(Judged):
    def test_not_kept(self):
        session, steps = Session(START), Steps(START)
        session.apply(LOOK)
        steps.add(Reader(row(CELL, BARE, NOTHING)), (LOOK,))
        with session.trial() as trial:
            self.assertIsInstance(trial, Trial)
            self.check(session, steps)
            session += OTHER
            session.reader = Reader(CELL)
            session[()] = BARE
            self.assertEqual((len(session), session.reader), (4, Reader(BARE)))
            self.assertIs(OTHER in session, True)
        self.check(session, steps)
        with session.trial():
            self.assertIs(session.undo(), True)
            self.assertIs(session.undo(), False)
            session.put(Reader(CELL))
        self.check(session, steps)

    def test_kept(self):
        session, steps = Session(START), Steps(START)
        with session.trial() as trial:
            self.assertIsNone(trial.keep())
            session.apply(LOOK)
        steps.add(Reader(row(CELL, BARE, NOTHING)), (LOOK,))
        self.check(session, steps)
        with session.trial() as trial:
            self.assertIs(session.undo(), True)
            session.put(Reader(CELL))
            trial.keep()
            trial.keep()
        steps.undo()
        steps.add(Reader(CELL), "reader")
        self.check(session, steps)
        self.assertIs(session.undo(), True)
        self.check(session, Steps(START))

    def test_errors_go_through(self):
        for error in (Own(), KeyError(1), NoWord(2), ValueError(), KeyboardInterrupt(), SystemExit(1), LimitError()):
            for keeps in (False, True):
                session = Session(START)
                with self.assertRaises(type(error)) as caught:
                    with session.trial() as trial:
                        session.apply(LOOK)
                        if keeps:
                            trial.keep()
                        raise error
                self.assertIs(caught.exception, error)
                self.check(session, Steps(START))

                def call(trial):
                    session.apply(LOOK)
                    trial.keep()
                    raise error

                with self.assertRaises(type(error)) as caught:
                    session.during(call)
                self.assertIs(caught.exception, error)
                self.check(session, Steps(START))
        session = Session(START)
        with self.assertRaises(NoChange):
            with session.trial() as trial:
                trial.keep()
                session += LOOK
                session += ("look", (9,))
        self.check(session, Steps(START))

    def test_in_one_another(self):
        """What an inner trial keeps the outer one takes back, unless it is kept too."""
        for kept in range(8):
            session = Session(START)
            with session.trial() as one:
                session.apply(LOOK)
                with session.trial() as two:
                    session.apply(OTHER)
                    with session.trial() as three:
                        session.apply(("need", (), 1))
                        self.assertEqual(len(session), 3)
                        if kept & 4:
                            three.keep()
                    self.assertEqual(len(session), 3 if kept & 4 else 2)
                    if kept & 2:
                        two.keep()
                inner = (3 if kept & 4 else 2) if kept & 2 else 1
                self.assertEqual(len(session), inner)
                if kept & 1:
                    one.keep()
            self.assertEqual(len(session), inner if kept & 1 else 0)
            self.assertEqual(session.history(), [(LOOK,), (OTHER,), (("need", (), 1),)][:len(session)])

    def test_the_moment_when_it_was_made(self):
        session = Session(START)
        early = session.trial()
        session.apply(LOOK)
        with early:
            session.apply(OTHER)
        self.check(session, Steps(START))
        session.apply(LOOK)
        late = session.trial()
        with session.trial():
            session.apply(OTHER)
            with late:
                session.undo()
                session.undo()
            self.assertEqual(session.history(), [(LOOK,)])
            session.undo()
        self.assertEqual(session.history(), [(LOOK,)])

    def test_undo_to_steps_ahead_of_the_trial(self):
        session = Session(START)
        session.apply(LOOK)
        session.apply(OTHER)
        with session.trial() as trial:
            session.undo()
            session.undo()
            self.assertIs(session.undo(), False)
            session.apply(("need", (), 3))
            trial.keep()
        self.assertEqual(session.history(), [(("need", (), 3),)])
        self.assertIs(session.undo(), True)
        self.check(session, Steps(START))

    def test_during(self):
        session = Session(START)
        found = []

        def call(trial):
            found.append(trial)
            session.apply(LOOK)
            return [len(session)]

        self.assertEqual(session.during(call=call), [1])
        self.check(session, Steps(START))
        self.assertIsInstance(found[0], Trial)
        self.assertEqual(session.during(lambda trial: (trial.keep(), call(trial))[1]), [1])
        self.assertEqual(session.history(), [(LOOK,)])
        self.assertIsNone(session.during(lambda trial: None))
        self.assertEqual(session.during(lambda trial: session.during(lambda other: (other.keep(), session.undo()))),
                         (None, True))
        self.assertEqual(session.history(), [(LOOK,)])


class Goals(Judged):
    def test_reached_and_not(self):
        for part, changes, goals in (
                (row(BARE, BARE), (LOOK, OTHER), ("never", "ends", "bounded")), (row(BARE, BARE), (LOOK,), ()),
                (row(BARE, BARE), (), ()), (CELL, (), ("never", "ends", "bounded")),
                (fill(if_left(pad(2))), (), ("never", "bounded")), (counted(if_left(BARE)), (), ("never", "ends")),
                (counted(fill(NOTHING)), (), ("never",)), (fill(row(BARE, BARE)), (("look", (0, 1)),), ("never", "ends", "bounded")),
                (counted(BARE), (("ahead", (), 0),), ("never", "ends", "bounded")),
                # Each change has paths of the reader with the changes ahead of it.
                (BARE, (("need", (), 1), ("need", (1,), 2), ("look", (1, 1))), ("never", "ends", "bounded")),
                (BARE, (("need", (), 1), ("need", (), 2), ("need", (), 3)), ("never", "ends", "bounded")),
                (fill(BARE), (("look", (0,)), ("look", (0,))), ("never", "ends", "bounded"))):
            for goal in ("never", "ends", "bounded"):
                session, steps = Session(Reader(part)), Steps(Reader(part))
                session.apply()
                steps.add(Reader(part), ())
                self.assertIs(session.tried(*changes, goal=goal), goal in goals, (part, changes, goal))
                self.check(session, steps)
                self.assertIs(session.kept_if(*changes, goal=goal), goal in goals)
                if goal in goals:
                    for change in changes:
                        steps.add(changed(steps.readers[-1], change), (change,))
                self.check(session, steps)
            session = Session(Reader(part))
            self.assertIs(session.tried(*changes), "never" in goals)
            self.assertIs(session.kept_if(*changes), "never" in goals)
            self.assertEqual(len(session), len(changes) if "never" in goals else 0)

    def test_drawn(self):
        draw = random.Random(155)
        seen = []
        for reader in drawn_readers(156, 150):
            changes, other = [], reader
            while len(changes) < 3:
                change = drawn_change(draw, other)
                try:
                    other = changed(other, change)
                except NoChange:
                    continue
                changes.append(change)
            for goal in ("never", "ends", "bounded"):
                wanted = bool(verdict_of(other))
                if goal == "ends":
                    wanted = wanted and not lengths_of(other, "endless")
                if goal == "bounded":
                    wanted = wanted and idle_of(other) is None
                session = Session(reader)
                self.assertIs(session.tried(*changes, goal=goal), wanted, (reader.part, changes))
                self.check(session, Steps(reader))
                self.assertIs(session.kept_if(*changes, goal=goal), wanted)
                self.assertEqual(session.history(), [(change,) for change in changes] if wanted else [])
                self.assertEqual(session.reader, other if wanted else reader)
                seen.append((goal, wanted))
        self.assertEqual(len(set(seen)), 6)

    def test_changes_that_cannot_be_made(self):
        session, steps = Session(START), Steps(START)
        session += LOOK
        steps.add(Reader(row(CELL, BARE, NOTHING)), (LOOK,))
        for changes, index in (((None,), 0), ((OTHER, None), 1), ((OTHER, OTHER, ("look", (2,)), OTHER), 2),
                               ((("need", (), 1), ("look", (1, 1)), ("look", (0,))), 2),
                               ((("need", (), 1), OTHER), 1),
                               ((LOOK, ["look", (1,)]), 1), ((("need", (), 10),), 0)):
            for call in (session.tried, session.kept_if):
                for goal in ("never", "ends", "bounded"):
                    error = self.leaves(session, steps, NoWord, call, *changes, goal=goal)
                    self.assertEqual(error.value, index)
                    self.assertIs(type(error.__cause__), NoChange)
                    self.assertIs(error.__cause__.value, changes[index])
        session = Session(Reader(row(BARE, within(need(1)))))
        for call in (session.tried, session.kept_if):
            error = self.leaves(session, Steps(session.reader), NoWord, call, LOOK, ("limit", (1,), "told"))
            self.assertEqual((error.value, error.__cause__.value), (1, (("limit", (1,), "told"),)))
            self.assertIs(type(error.__cause__.__cause__), NoPart)

    def test_no_goals(self):
        session = Session(START)
        for goal in strange_objects() + ["Never", "never ", "end", ("never",), b"ends"]:
            for call in (session.tried, session.kept_if):
                for changes in ((), (LOOK,), (None,), (LOOK, None)):
                    error = self.leaves(session, Steps(START), NoWord, call, *changes, goal=goal)
                    self.assertIs(error.value, goal)
                    self.assertIsNone(error.__cause__)

    def test_too_large(self):
        part = CELL
        for turn in range(6):
            part = counted(part, most=9)
        large = Session(Reader(part))
        for call in (large.tried, large.kept_if):
            for goal in ("never", "ends", "bounded"):
                self.leaves(large, Steps(large.reader), TooLarge, call, ("look", ()), goal=goal)
                # A change that cannot be made comes first.
                self.assertEqual(self.leaves(large, Steps(large.reader), NoWord, call, None, goal=goal).value, 0)


if __name__ == "__main__":
    unittest.main()
