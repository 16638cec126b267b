"""The names, arguments and places of the interface, as far as its modules have landed."""

import importlib
import inspect
import unittest

FUNCTIONS = {
    "parts": {
        "is_part": "(thing)", "size_of": "(part)", "subparts": "(part)", "part_at": "(part, path)",
        "replaced": "(part, path, other)",
    },
    "texts": {"show": "(reader)", "read_reader": "(text)"},
    "lengths": {"lengths_of": "(reader, kind)", "example": "(reader, kind, length)", "verdict_of": "(reader)"},
    "work": {"most_work": "(reader, length)", "idle_of": "(reader)"},
}

CLASSES = {
    "errors": {
        "LimitError": None, "NoPart": "(path)", "NoRow": "(index)", "NoSet": "(place)", "NoText": "(line)",
        "NoWord": "(value)", "TooLarge": "(limit)", "NoPaper": None, "NoChange": "(change)", "Stopped": "(place)",
        "Refused": "(place, reason)", "Beyond": "(place)", "Endless": "(place)",
    },
    "sets": {"LengthSet": "(early=(), start=0, period=1, rests=())"},
    "cells": {"Cursor": "(row)", "Limit": None},
    "reading": {"Reader": "(part)", "Outcome": None},
    "lengths": {"Verdict": "(reader)"},
}

METHODS = {
    ("sets", "LengthSet"): {
        "least": "()", "below": "(bound)", "none": "()", "full": "()", "from_least": "(number)", "only": "(*numbers)",
        "__contains__": None, "__bool__": None, "__or__": None, "__and__": None, "__sub__": None, "__add__": None,
        "__radd__": None, "__invert__": None, "__le__": None, "__eq__": None,
    },
    ("cells", "Cursor"): {
        "__len__": None, "look": "(low=0, high=None)", "bare": "(low=0, high=None)", "need": "(many)",
        "within": "(many, *, limit='nested')", "during": "(limit, call)", "behind": "(limit, *, rest='skip')",
    },
    ("cells", "Limit"): {"__enter__": None, "__exit__": None},
    ("reading", "Reader"): {"__call__": "(row)", "__eq__": None},
    ("reading", "Outcome"): {"told": "()", "__bool__": None, "__eq__": None},
    ("lengths", "Verdict"): {"__bool__": None},
}

STATIC = ("none", "full", "from_least", "only")


def module(name):
    return importlib.import_module("withinlimits." + name)


class Interface(unittest.TestCase):
    def test_functions_and_classes(self):
        for table, test in ((FUNCTIONS, inspect.isfunction), (CLASSES, inspect.isclass)):
            for name, things in table.items():
                for thing, wanted in things.items():
                    found = getattr(module(name), thing)
                    self.assertTrue(test(found), thing)
                    self.assertEqual(found.__module__, "withinlimits." + name)
                    if wanted is not None:
                        self.assertEqual(str(inspect.signature(found)), wanted, thing)

    def test_methods_stand_in_the_class_itself(self):
        for (name, owner), methods in METHODS.items():
            body = vars(getattr(module(name), owner))
            for method, wanted in methods.items():
                self.assertIn(method, body)
                self.assertEqual(isinstance(body[method], staticmethod), method in STATIC)
                if wanted is None:
                    continue
                signature = inspect.signature(getattr(body[method], "__func__", body[method]))
                parameters = list(signature.parameters.values())[0 if method in STATIC else 1:]
                self.assertEqual(str(signature.replace(parameters=parameters)), wanted, method)


if __name__ == "__main__":
    unittest.main()
