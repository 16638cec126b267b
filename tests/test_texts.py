import unittest

from drawn import drawn_readers
from strange import strange_objects
from withinlimits.errors import NoPart, NoText
from withinlimits.reading import Reader
from withinlimits.texts import read_reader, show

CELL = ("cell", 0, None, "checked")


def lines(*rows):
    return "\n".join(rows)


EACH_LINE = (
    (("cell", 0, None, "checked"), "cell 0.."),
    (("cell", 3, 1000000, "bare"), "bare cell 3..1000000"),
    (("cell", 0, 0, "checked"), "cell 0..0"),
    (("row", ()), "row"),
    (("row", (CELL, ("need", 9))), lines("row", "  cell 0..", "  need 9")),
    (("choice", "checked", ((0, CELL), (99, ("row", ())))),
     lines("choice", "  option 0", "    cell 0..", "  option 99", "    row")),
    (("choice", "bare", ((7, ("if left", CELL)),)),
     lines("bare choice", "  option 7", "    if left", "      cell 0..")),
    (("times", 0, CELL), lines("times 0", "  cell 0..")),
    (("counted", "checked", None, None, CELL), lines("counted", "  cell 0..")),
    (("counted", "checked", 9, None, CELL), lines("counted most 9", "  cell 0..")),
    (("counted", "checked", None, 0, CELL), lines("counted ahead 0", "  cell 0..")),
    (("counted", "bare", 0, 9, CELL), lines("bare counted most 0 ahead 9", "  cell 0..")),
    (("within", "checked", None, "nested", "exact", CELL), lines("within nested exact", "  cell 0..")),
    (("within", "checked", 5, "nested", "skip", CELL), lines("within most 5 nested skip", "  cell 0..")),
    (("within", "bare", 20, "cut", "skip", CELL), lines("bare within most 20 cut skip", "  cell 0..")),
    (("within", "bare", None, "told", "exact", CELL), lines("bare within told exact", "  cell 0..")),
    (("fill", CELL), lines("fill", "  cell 0..")),
    (("if left", CELL), lines("if left", "  cell 0..")),
    (("need", 1), "need 1"),
    (("pad", 2, "checked"), "pad 2"),
    (("pad", 6, "bare"), "bare pad 6"),
    (("fill", ("row", (("times", 2, ("row", ())), ("pad", 3, "checked")))),
     lines("fill", "  row", "    times 2", "      row", "    pad 3")),
)

FORMS = ("cell 0..9", "cell 7..", "bare cell 0..9", "row", "times 3", "fill", "if left", "need 4", "pad 5", "bare pad 2",
         "choice", "bare choice", "counted", "counted most 3", "counted ahead 2", "counted most 3 ahead 2",
         "bare counted most 3", "within nested exact", "within most 5 cut skip", "bare within told skip")

NO_FORMS = (
    "", "cell", "Cell 0..9", "cell 0", "cell 0...9", "cell ..9", "cell ..", "cell 0.. 9", "cell 0 ..9", "cell 0..9..",
    "cell 0..9 checked", "cell -1..9", "cell +1..9", "cell 00..9", "cell 0..09", "cell 01..", "cell 0..10000000",
    "cell 10000000..", "cell a..b", "cell 0..9 ", "cell  0..9", "cell 0..9\r", "cell\t0..9", "cell 0,9", "cell 0..1_0",
    "checked cell 0..9", "bare", "bare ", "bare bare cell 0..9", "bare  cell 0..9", "bare row", "bare times 3",
    "bare fill", "bare if left", "bare need 4", "row 1", "rows", "row ", "times", "times 3 4", "times x", "times 03",
    "times 12345678", "times \u0663", "times \u00b2", "times 1.0", "times -1", "fill 1", "fills", "if", "left",
    "if  left", "if left 1", "if right", "need", "need 4 5", "need four", "pad", "pad 05", "pad 5 bare", "choice 1",
    "counted 3", "counted most", "counted ahead", "counted most 3 most 4", "counted ahead 2 most 3", "counted most x",
    "counted most 3 ahead", "counted most 3  ahead 2", "counted most 03", "counted ahead 12345678", "counted least 3",
    "within", "within nested", "within exact", "within exact nested", "within nested exact 5", "within 5 nested exact",
    "within most nested exact", "within most 5", "within most 5 nested", "within nested exact most 5",
    "within most 05 nested exact", "within ahead 5 nested exact", "within inner exact", "within nested loose",
    "bare within", "option", "option x", "bare option 1", "option 1 2", "option 01", "look", "none", "12", "..",
)


class Show(unittest.TestCase):
    def test_each_line(self):
        for part, text in EACH_LINE:
            self.assertEqual(show(Reader(part)), text)
            self.assertEqual(read_reader(text).part, part)
            self.assertEqual(read_reader(text=text), Reader(part))

    def test_the_example(self):
        pair = ("row", (("cell", 0, 9, "checked"), ("cell", 0, None, "bare")))
        reader = Reader(("within", "checked", None, "nested", "exact", ("fill", pair)))
        self.assertEqual(show(reader=reader).split("\n"), [
            "within nested exact", "  fill", "    row", "      cell 0..9", "      bare cell 0.."])
        self.assertEqual(read_reader(show(reader)), reader)

    def test_read_back(self):
        for reader in drawn_readers(3, 400, 8, 40, 200):
            text = show(reader)
            again = read_reader(text)
            self.assertEqual(again, reader)
            self.assertEqual(show(again), text)


class ReadReader(unittest.TestCase):
    def wrong(self, text, line):
        with self.assertRaises(NoText) as caught:
            read_reader(text)
        self.assertEqual(caught.exception.line, line, text)

    def test_no_text(self):
        for thing in strange_objects() + [b"row", ["row"], 12]:
            if not isinstance(thing, str):
                self.wrong(thing, None)

    def test_lines_of_no_form(self):
        for text in NO_FORMS:
            self.wrong(text, 0)
            self.wrong(lines("row", "  row", "  " + text), 2)
            self.wrong(lines("row", "  " + text, "no"), 1)
            self.wrong(lines("choice", "  option 1", "    " + text), 2)

    def test_options_stand_in_choices_alone(self):
        self.wrong("option 1", 0)
        for holder in ("row", "times 2", "fill", "if left", "counted", "within cut skip"):
            self.wrong(lines(holder, "  option 1", "    row"), 1)
        for form in FORMS:
            self.wrong(lines("choice", "  " + form), 1)
            self.wrong(lines("choice", "  option 1", "    row", "  " + form), 3)
        self.wrong(lines("choice", "  option 1", "    option 2"), 2)
        self.wrong(lines("choice", "  option 1", "  option 2"), 2)
        self.wrong(lines("choice", "  option 1", "    row", "      option 2"), 3)
        self.wrong(lines("choice", "  option 1", "    row", "    row"), 3)

    def test_depths(self):
        for form in FORMS:
            for blanks in ("", " ", "   ", "    ", "\t", " \t", "     "):
                self.wrong(lines("row", blanks + form), 1)
            self.wrong(" " + form, 0)
            self.wrong("  " + form, 0)
            self.wrong(lines("need 1", form), 1)
            self.wrong(lines("need 1", "  " + form), 1)
            self.wrong(lines("row", "  need 1", "    " + form), 2)
            self.wrong(lines("row", "  row", "      " + form), 2)
        for leaf in ("cell 0..", "need 3", "pad 2"):
            self.wrong(lines("row", "  " + leaf, "    row"), 2)
            self.assertEqual(len(read_reader(lines("row", "  row", "    " + leaf, "  row")).part[1]), 2)

    def test_one_part_alone(self):
        for holder in ("times 2", "fill", "if left", "counted", "within cut skip", "bare counted ahead 0"):
            self.wrong(lines(holder, "  cell 0..", "  row"), 2)
            self.wrong(lines(holder, "  row", "    row", "  row"), 3)
            self.wrong(lines("row", "  " + holder, "    cell 0..", "    row"), 3)
            self.wrong(lines("row", "  " + holder, "  row"), 2)
            self.wrong(lines("row", "  " + holder, "row"), 2)
            self.wrong(lines(holder, "row"), 1)
            self.assertEqual(len(read_reader(lines("row", "  " + holder, "    cell 0..", "  row")).part[1]), 2)

    def test_missing_lines(self):
        for holder in ("times 2", "fill", "if left", "counted", "within cut skip"):
            self.wrong(holder, 1)
            self.wrong(lines("row", "  row", "  " + holder), 3)
            self.wrong(lines(holder, "  fill"), 2)
        self.wrong(lines("choice", "  option 3"), 2)
        self.wrong(lines("row", "  choice", "    option 3", "      row", "    option 4"), 5)

    def test_empty_lines(self):
        self.wrong("", 0)
        self.wrong("\n", 0)
        self.wrong("\nrow", 0)
        self.wrong("row\n", 1)
        self.wrong("row\n\n  row", 1)
        self.wrong("row\n  \n  row", 1)
        self.wrong("fill\n", 1)
        self.wrong("row\n  row\n", 2)
        self.wrong("row\r\n  row", 0)
        self.wrong("row\x0b  row", 0)

    def test_first_wrong_line(self):
        self.wrong(lines("row", "no", "no"), 1)
        self.wrong(lines("fill", "  need 77", "  need 1"), 2)
        self.wrong(lines("row", "  fill", "  look"), 2)

    def test_forty_blanks(self):
        deep = ["  " * level + "fill" for level in range(20)]
        with self.assertRaises(NoPart) as caught:
            read_reader(lines(*deep, " " * 40 + "row"))
        self.assertEqual(caught.exception.path, (0,) * 8)
        self.wrong(lines(*deep, " " * 40 + "fill", " " * 42 + "row"), 21)
        self.wrong(lines(*deep, " " * 40 + "fill"), 21)
        self.wrong(lines(*deep, " " * 42 + "row"), 20)
        self.wrong(lines(*deep, " " * 41 + "row"), 20)

    def test_errors_of_readers(self):
        cells = ["  cell 0.."] * 13
        for text, path in (
            ("cell 9..8", ()), ("cell 1000001..", ()), ("cell 0..9999999", ()), ("need 0", ()), ("need 10", ()),
            ("pad 1", ()), ("pad 9999999", ()), (lines("times 7", "  row"), ()), ("choice", ()),
            (lines("row", *cells), ()), (lines("row", "  row", *["  " + cell for cell in cells]), (0,)),
            (lines("counted most 10", "  row"), ()), (lines("counted ahead 0", "  fill", "    row"), ()),
            (lines("within most 21 cut skip", "  row"), ()), (lines("within told skip", "  row", "    need 1"), ()),
            (lines("choice", "  option 2", "    row", "  option 1", "    row"), ()),
            (lines("choice", "  option 100", "    row"), ()), (lines("row", "  row", "  need 0"), (1,)),
            (lines("choice", *["  option 1", "    row"] * 7), ()),
            (lines("choice", "  option 1", "    row", "  option 2", "    times 3", "      need 0"), (1, 0)),
        ):
            with self.assertRaises(NoPart) as caught:
                read_reader(text)
            self.assertEqual(caught.exception.path, path, text)


if __name__ == "__main__":
    unittest.main()
