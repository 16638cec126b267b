import unittest

from drawn import KINDS, drawn_readers
from made import BARE, CELL, GREAT, NOTHING, ONE, choice, counted, fill, if_left, pad, row, times, within
from strange import strange_objects
from withinlimits.console import Console
from withinlimits.errors import NoWord
from withinlimits.lengths import lengths_of, verdict_of
from withinlimits.reading import Reader
from withinlimits.sessions import Session
from withinlimits.sites import sites
from withinlimits.texts import show


def need(many):
    return ("need", many)


def large():
    part = CELL
    for turn in range(6):
        part = counted(part, most=9)
    return Reader(part)


WHOLE = Reader(row(BARE, counted(row(CELL, CELL), 3), within(fill(pad(2)), "cut"), need(2), fill(CELL), if_left(NOTHING)))


class Answers(unittest.TestCase):
    def asks(self, part, *pairs):
        console = Console(Reader(part))
        for line, wanted in pairs:
            answer = console.answer(line)
            self.assertIsInstance(answer, list)
            self.assertEqual(answer, wanted, line)
        return console

    def test_the_example(self):
        self.asks(row(BARE), ("verdict", ["beyond at 0"]), ("change look 0", ["changed"]), ("verdict", ["never"]),
                  ("read", ["refused at 0", "     0 looks", "     0 turns", "why short"]), ("lengths refused", ["0"]))

    def test_show(self):
        for reader in drawn_readers(161, 60):
            self.assertEqual(Console(reader).answer("show"), show(reader).split("\n"))
        self.asks(within(fill(BARE), "cut", "exact", 5), ("show", ["within most 5 cut exact", "  fill", "    bare cell 0.."]),
                  ("change look 0.0", ["changed"]), ("show", ["within most 5 cut exact", "  fill", "    cell 0.."]))

    def test_checks(self):
        self.asks(row(NOTHING, BARE), ("checks", []))
        self.asks(CELL, ("checks", ["top       look"]))
        deep = within(fill(row(counted(row(CELL, need(3)), ahead=0))))
        self.asks(deep, ("checks", ["top       look", "0.0.0     look", "0.0.0     ahead", "0.0.0.0.0 look", "0.0.0.0.1 need"]))
        # Twelve characters are not cut.
        self.asks(fill(fill(fill(fill(fill(fill(row(CELL))))))), ("checks", ["0.0.0.0.0.0.0 look"]))
        self.asks(row(*[NOTHING] * 11, CELL), ("checks", ["11        look"]))
        for reader in drawn_readers(162, 60):
            wanted = [".".join(str(index) for index in path).ljust(9) + " " + word if path else "top       " + word
                      for path, word in sites(reader)]
            self.assertEqual(Console(reader).answer("checks"), wanted)

    def test_steps_and_undo(self):
        console = self.asks(row(BARE, BARE), ("steps", ["  0 steps"]), ("undo", ["nothing"]), ("change look 1", ["changed"]),
                            ("steps", ["  1 steps"]), ("change need top 2", ["changed"]), ("steps", ["  2 steps"]),
                            ("undo", ["undone"]), ("undo", ["undone"]), ("undo", ["nothing"]), ("steps", ["  0 steps"]))
        for time in range(12):
            console.session.put(Reader(CELL))
        self.assertEqual(console.answer("steps"), [" 12 steps"])
        for time in range(988):
            console.session.put(Reader(CELL))
        self.assertEqual(console.answer("steps"), ["1000 steps"])

    def test_verdict(self):
        self.asks(CELL, ("verdict", ["never"]))
        self.asks(BARE, ("verdict", ["beyond at 0"]))
        self.asks(row(("cell", 7, 9, "checked"), BARE), ("verdict", ["beyond at 1: 7"]))
        self.asks(row(ONE, ("cell", 12, 12, "checked"), BARE), ("verdict", ["beyond at 2: 1 12"]))
        for reader in drawn_readers(163, 80):
            verdict = verdict_of(reader)
            wanted = "never"
            if not verdict:
                wanted = f"beyond at {verdict.at}"
                if verdict.row:
                    wanted += ": " + " ".join(str(cell) for cell in verdict.row)
            self.assertEqual(Console(reader).answer("verdict"), [wanted])

    def test_read(self):
        part = row(choice(CELL, fill(times(2, CELL)), fill(NOTHING), row(BARE, BARE)), need(1))
        self.asks(part, ("read 0 5 1", ["read at 2", "     2 looks", "     0 turns"]),
                  ("read", ["refused at 0", "     0 looks", "     0 turns", "why short"]),
                  ("read 9", ["refused at 0", "     1 looks", "     0 turns", "why value"]),
                  ("read 0 5", ["refused at 2", "     2 looks", "     0 turns", "why short"]),
                  ("read 1 5 5 5 5", ["refused at 5", "     5 looks", "     6 turns", "why short"]),
                  ("read 2 0", ["endless at 1", "     1 looks", "     1 turns"]),
                  ("read 3 0", ["beyond at 2", "     2 looks", "     0 turns"]))
        self.asks(NOTHING, ("read", ["read at 0", "     0 looks", "     0 turns"]))
        self.asks(CELL, (f"read {GREAT}", ["read at 1", "     1 looks", "     0 turns"]))
        self.asks(counted(NOTHING), ("read 1234567", ["read at 1", "     1 looks", "1234567 turns"]),
                  ("read 123456", ["read at 1", "     1 looks", "123456 turns"]))
        self.asks(within(NOTHING, most=1), ("read 2", ["refused at 0", "     1 looks", "     0 turns", "why most"]),
                  ("read 1", ["refused at 1", "     1 looks", "     0 turns", "why nested"]))
        self.asks(within(NOTHING, "told", "exact"), ("read 1 2", ["refused at 1", "     1 looks", "     0 turns", "why exact"]))
        self.asks(within(NOTHING, "told"), ("read 1", ["refused at 1", "     1 looks", "     0 turns", "why past"]))

    def test_lengths(self):
        self.asks(fill(times(3, CELL)), ("lengths read", ["0 +3"]), ("lengths refused", ["1 2 +3"]),
                  ("lengths beyond", ["none"]), ("lengths endless", ["none"]))
        self.asks(row(need(2), choice(BARE, times(3, BARE))), ("lengths read", ["2 +1"]), ("lengths beyond", ["2 3"]),
                  ("lengths refused", ["0 +1"]))
        self.asks(fill(choice(times(3, BARE), times(4, BARE))), ("lengths read", ["0 4 5 8 9 10 12 +1"]))
        self.asks(row(CELL, fill(row(CELL, pad(3)))), ("lengths read", ["1 3 +3"]), ("lengths endless", ["none"]))
        for reader in drawn_readers(164, 80):
            for kind in KINDS:
                lengths = lengths_of(reader, kind)
                members = list(lengths.below(lengths.start + lengths.period))
                wanted = " ".join(str(number) for number in members) or "none"
                if lengths.rests:
                    wanted += f" +{lengths.period}"
                self.assertEqual(Console(reader).answer("lengths " + kind), [wanted])

    def test_change(self):
        part = row(BARE, counted(BARE, manner="bare"), within(BARE, manner="bare"))
        console = self.asks(part, ("change look 0", ["changed"]), ("change ahead 1 0", ["changed"]),
                            ("change most 1 9", ["changed"]), ("change limit 2 cut", ["changed"]),
                            ("change rest 2 exact", ["changed"]), ("change most 2 20", ["changed"]),
                            ("change need 2.0 3", ["changed"]), ("change look 2.0.1", ["changed"]),
                            ("change need top 9", ["changed"]), ("steps", ["  9 steps"]))
        wanted = row(need(9), row(CELL, counted(BARE, 9, 0, "bare"), within(row(need(3), CELL), "cut", "exact", 20, "bare")))
        self.assertEqual(console.session.reader, Reader(wanted))
        self.assertEqual(console.session.history()[0], (("look", (0,)),))
        self.assertEqual(console.session.history()[-1], (("need", (), 9),))

    def test_try(self):
        console = self.asks(row(BARE, BARE), ("try need top 2", ["reached"]), ("try look 0", ["not reached"]),
                            ("steps", ["  0 steps"]), ("change look 1", ["changed"]), ("try look 0", ["reached"]),
                            ("try need 1 1", ["not reached"]), ("verdict", ["beyond at 0"]), ("steps", ["  1 steps"]))
        self.assertEqual(console.session.reader, Reader(row(BARE, CELL)))
        self.asks(within(BARE, "told"), ("try limit top cut", ["not reached"]), ("try most top 0", ["not reached"]),
                  ("try look 0", ["not reached"]), ("change look 0", ["changed"]), ("try limit top cut", ["reached"]),
                  ("try most top 0", ["reached"]), ("try rest top exact", ["not reached"]))
        self.asks(counted(BARE), ("try ahead top 0", ["reached"]))


class Refused(unittest.TestCase):
    def test_changes(self):
        console = Console(WHOLE)
        console.answer("change look 0")
        reader, history = console.session.reader, console.session.history()
        for change in ("look top", "look 3", "look 9", "look 0.0", "need 0 0", "need 0 10", "need top 9999999", "need 17 1",
                       "need 0 " + "9" * 31, "ahead 0 1", "ahead 1 10", "ahead 2 0", "most 1 10", "most 2 21", "most 0 1",
                       "most top 0", "limit 2 Cut", "limit 2 skip", "limit 2 -", "limit 1 cut", "limit 2 nested.", "rest 2 cut",
                       "rest 0 skip", "rest 2 12", "limit 2 told\n", "rest 2 \t", "look 0." + "1" * 31, "need 1.0.0.0.0 1"):
            for word in ("change", "try"):
                self.assertEqual(console.answer(f"{word} {change}"), ["refused"], change)
                self.assertEqual(console.session.reader, reader)
                self.assertEqual(console.session.history(), history)
        # Changes that make no part.
        console = Console(Reader(within(need(2))))
        for line in ("change limit top told", "try limit top told"):
            self.assertEqual(console.answer(line), ["refused"])
            self.assertEqual(len(console.session), 0)

    def test_rows(self):
        console = Console(Reader(fill(CELL)))
        for cells in (str(GREAT + 1), "9" * 31, "1 2 " + str(GREAT + 1), " ".join(["1"] * 10001)):
            self.assertEqual(console.answer("read " + cells), ["refused"])
        self.assertEqual(console.answer("read " + " ".join(["1"] * 10000))[:2], ["read at 10000", " 10000 looks"])

    def test_what_is_too_large(self):
        console = Console(large())
        for line in ("verdict", "lengths read", "lengths endless", "try look top", "try need top 1"):
            self.assertEqual(console.answer(line), ["refused"], line)
        self.assertEqual(console.session.reader, large())
        self.assertEqual(console.answer("read 0"), ["read at 1", "     1 looks", "     0 turns"])
        self.assertEqual(console.answer("change most top 0"), ["changed"])
        self.assertEqual(console.answer("verdict"), ["never"])


class Unknown(unittest.TestCase):
    LINES = (
        "", " ", "  ", "shows", "Show", "SHOW", " show", "show ", "show  ", "show\n", "\nshow", "show 1", "show top", "check",
        "checks ", "checks 0", "Checks", "steps 1", "step", " steps", "undo 1", "undo undo", "undo ", "Undo", "verdict ",
        "verdict 1", "Verdict", "verdict\t", "read ", "read  1", "read 1 ", "read 1  2", " read", "read 01", "read 00",
        "read -1", "read +1", "read 1.0", "read x", "read 1,2", "read 1 x", "read x 1", "read 1\t2", "read 1\n", "read 1_0",
        "read " + "1" * 32, "read 0" + "1" * 30, "read 0x1", "read \u0661", "read \u00b2", "read top", "READ 1", "lengths",
        "lengths ", "lengths Read", "lengths none", "lengths read refused", "lengths read ", "lengths  read", "lengths kind",
        "lengths 1", "change", "change ", "change look", "change look ", "change  look 0", "change look  0", "change look 0 ",
        "change look 0 1", "change look 0.", "change look .0", "change look 0..0", "change look .", "change look 00",
        "change look 0.01", "change look Top", "change look top.0", "change look 0.top", "change look top top",
        "change look -1", "change look ()", "change look x", "change Look 0", "change look " + "1" * 32,
        "change look 0." + "1" * 32, "change need 0", "change need 0 x", "change need 0 01", "change need 0 -1",
        "change need 0 1 1", "change need 1", "change need x 1", "change need 0. 1", "change need 0  1", "change need 0 1 ",
        "change need 0 " + "1" * 32, "change need 0 1.0", "change ahead 1", "change ahead 1 x", "change ahead 1 None",
        "change most 1", "change most 1 None", "change most top", "change limit 2", "change limit 2 cut skip",
        "change limit 2 ", "change limit  cut", "change limit cut", "change limit x cut", "change rest 2", "change rest top",
        "change rest 2 skip skip", "change part 0 1", "change low 0 1", "change 0", "change times 0 1", "change change look 0",
        "Change look 0", "try", "try ", "try look", "try look 0 1", "try 0", "try need 0", "try need 0 x", "try limit 2",
        "Try look 0", "try try look 0", "try change look 0", "tried look 0", "goal", "help", "look 0", "need 0 1", "top", "0",
        "session", "keep", "quit", "history", "put", "\tshow", "show\r", "show;", "show show", "\u00a0", "show\u00a0",
    )

    def test_unknown(self):
        console = Console(WHOLE)
        for line in self.LINES:
            self.assertEqual(console.answer(line), ["unknown"], line)
        self.assertEqual(console.session.reader, WHOLE)
        self.assertEqual(console.session.history(), [])

    def test_answers_are_new_lists(self):
        console = Console(Reader(CELL))
        for line in ("", "show", "checks", "steps", "undo", "verdict", "read", "lengths read", "change look 9", "try look top"):
            first = console.answer(line)
            wanted = list(first)
            first.append("more")
            self.assertEqual(console.answer(line=line), wanted)


class Consoles(unittest.TestCase):
    def test_the_session(self):
        console = Console(reader=Reader(row(BARE)))
        session = console.session
        self.assertIsInstance(session, Session)
        self.assertIs(console.session, session)
        console.answer("change look 0")
        self.assertEqual(session.history(), [(("look", (0,)),)])
        session.put(Reader(CELL))
        self.assertEqual(console.answer("show"), ["cell 0.."])
        self.assertEqual(console.answer("steps"), ["  2 steps"])
        for other in (session, Session(Reader(CELL)), None):
            with self.assertRaises(AttributeError):
                console.session = other
        self.assertIs(console.session, session)
        other = Console(Reader(row(BARE)))
        self.assertEqual(len(other.session), 0)

    def test_no_readers(self):
        for thing in strange_objects() + [CELL]:
            with self.assertRaises(NoWord) as caught:
                Console(thing)
            self.assertIs(caught.exception.value, thing)


if __name__ == "__main__":
    unittest.main()
