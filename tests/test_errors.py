import unittest

from withinlimits import errors
from withinlimits.errors import (
    Beyond, Endless, LimitError, NoChange, NoPaper, NoPart, NoRow, NoSet, NoText, NoWord, Refused, Stopped, TooLarge,
)


class Errors(unittest.TestCase):
    def test_what_each_stands_directly_under(self):
        self.assertEqual(LimitError.__bases__, (ValueError,))
        for one in (NoPart, NoRow, NoSet, NoText, NoWord, TooLarge, NoPaper, NoChange, Stopped):
            self.assertEqual(one.__bases__, (LimitError,), one)
        for one in (Refused, Beyond, Endless):
            self.assertEqual(one.__bases__, (Stopped,), one)

    def test_attributes(self):
        worth = object()
        for one, name in ((NoPart, "path"), (NoRow, "index"), (NoSet, "place"), (NoText, "line"), (NoWord, "value"),
                          (TooLarge, "limit"), (Stopped, "place"), (Beyond, "place"), (Endless, "place")):
            self.assertIs(getattr(one(worth), name), worth)
            self.assertIs(getattr(one(**{name: worth}), name), worth)

    def test_change(self):
        self.assertEqual(NoChange(("look", ())).value, ("look", ()))
        self.assertEqual(NoChange(change=3).value, 3)

    def test_refused(self):
        for error in (Refused(4, "short"), Refused(place=4, reason="short"), Refused(4, reason="short")):
            self.assertEqual((error.place, error.reason), (4, "short"))

    def test_each_has_its_parameters(self):
        self.assertIsInstance(NoPaper(), LimitError)
        for one in (NoPart, NoRow, NoSet, NoText, NoWord, TooLarge, NoChange, Stopped, Beyond, Endless, Refused):
            with self.assertRaises(TypeError):
                one()

    def test_defined_here(self):
        for name in ("LimitError", "NoPart", "NoRow", "NoSet", "NoText", "NoWord", "TooLarge", "NoPaper", "NoChange",
                     "Stopped", "Refused", "Beyond", "Endless"):
            self.assertEqual(getattr(errors, name).__module__, "withinlimits.errors")

    def test_caught_as_value_error(self):
        with self.assertRaises(ValueError):
            raise Refused(0, "value")

    def test_text_of_an_error_with_a_huge_number(self):
        # Python refuses to write integers of more than 4300 digits, so no text may be made ahead.
        self.assertEqual(NoWord(10 ** 5000).value, 10 ** 5000)


if __name__ == "__main__":
    unittest.main()
