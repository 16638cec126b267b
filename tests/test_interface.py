"""The names, arguments and places of the interface."""

import importlib
import inspect
import unittest

FUNCTIONS = {
    "parts": {
        "is_part": "(thing)", "size_of": "(part)", "subparts": "(part)", "part_at": "(part, path)",
        "replaced": "(part, path, other)",
    },
    "texts": {"show": "(reader)", "read_reader": "(text)"},
    "lengths": {"lengths_of": "(reader, kind)", "example": "(reader, kind, length)", "verdict_of": "(reader)"},
    "work": {"most_work": "(reader, length)", "idle_of": "(reader)"},
    "sites": {
        "sites": "(reader)", "without": "(reader, *checks)", "kept": "(reader, *checks)", "format_of": "(reader)",
        "is_same_format": "(reader, other)", "least_sets": "(reader)", "fewest": "(reader)", "idle_sites": "(reader)",
        "hoisted": "(reader, path)",
    },
    "papers": {"lefts_at": "(reader, path)", "surely_left": "(reader, path)", "paper_of": "(reader)"},
    "checker": {"accepts": "(reader, paper)", "claim_of": "(reader, paper)"},
    "alike": {
        "differs": "(reader, other, row, *, places=True)", "parted": "(reader, other, *, places=True)",
        "are_alike": "(reader, other, *, places=True)", "union_of": "(reader, other)",
    },
    "menus": {"changed": "(reader, *changes)", "least_changes": "(reader, menu, *, goal='never')"},
}

CLASSES = {
    "errors": {
        "LimitError": None, "NoPart": "(path)", "NoRow": "(index)", "NoSet": "(place)", "NoText": "(line)",
        "NoWord": "(value)", "TooLarge": "(limit)", "NoPaper": None, "NoChange": "(change)", "Stopped": "(place)",
        "Refused": "(place, reason)", "Beyond": "(place)", "Endless": "(place)",
    },
    "sets": {"LengthSet": "(early=(), start=0, period=1, rests=())"},
    "cells": {"Cursor": "(row)", "Limit": None},
    "reading": {"Reader": "(part)", "Outcome": None},
    "lengths": {"Verdict": "(reader)"},
    "fronts": {"Front": "(*sets)"},
    "checker": {"Claim": "(reader, paper)"},
    "sessions": {"Session": "(reader)", "Trial": None},
    "console": {"Console": "(reader)"},
}

METHODS = {
    ("sets", "LengthSet"): {
        "least": "()", "below": "(bound)", "none": "()", "full": "()", "from_least": "(number)", "only": "(*numbers)",
        "__contains__": None, "__bool__": None, "__or__": None, "__and__": None, "__sub__": None, "__add__": None,
        "__radd__": None, "__invert__": None, "__le__": None, "__eq__": None,
    },
    ("cells", "Cursor"): {
        "__len__": None, "look": "(low=0, high=None)", "bare": "(low=0, high=None)", "need": "(many)",
        "within": "(many, *, limit='nested')", "during": "(limit, call)", "behind": "(limit, *, rest='skip')",
    },
    ("cells", "Limit"): {"__enter__": None, "__exit__": None},
    ("reading", "Reader"): {"__call__": "(row)", "__eq__": None},
    ("reading", "Outcome"): {"told": "()", "__bool__": None, "__eq__": None},
    ("lengths", "Verdict"): {"__bool__": None},
    ("fronts", "Front"): {
        "sets": "()", "all_lefts": "()", "read": "()", "passed": "(lengths)", "begin": "(lengths, period)",
        "__contains__": None, "__bool__": None, "__or__": None, "__and__": None, "__le__": None, "__eq__": None,
    },
    ("checker", "Claim"): {"__call__": "(other)"},
    ("sessions", "Session"): {
        "put": "(reader)", "apply": "(*changes)", "__iadd__": None, "__getitem__": None, "__setitem__": None,
        "__call__": "(row)", "verdict": "()", "__len__": None, "history": "()", "__contains__": None, "undo": "()",
        "trial": "()", "during": "(call)", "tried": "(*changes, goal='never')", "kept_if": "(*changes, goal='never')",
    },
    ("sessions", "Trial"): {"keep": "()", "__enter__": None, "__exit__": None},
    ("console", "Console"): {"answer": "(line)"},
}

# The attributes of each class, for objects of it.
ATTRIBUTES = {
    ("sets", "LengthSet"): "early start period rests", ("cells", "Cursor"): "at left inside depth looks",
    ("reading", "Reader"): "part", ("reading", "Outcome"): "kind at why numbers looks turns work",
    ("lengths", "Verdict"): "row at all_lengths", ("fronts", "Front"): "period", ("checker", "Claim"): "word",
    ("sessions", "Session"): "reader", ("console", "Console"): "session",
}

STATIC = ("none", "full", "from_least", "only", "begin")

MODULES = ("errors", "sets", "cells", "parts", "reading", "texts", "lengths", "work", "fronts", "sites", "papers",
           "checker", "alike", "menus", "sessions", "console")


def module(name):
    return importlib.import_module("withinlimits." + name)


def objects():
    """An object of each class that has attributes."""
    reader = module("reading").Reader(("cell", 0, None, "checked"))
    lengths = module("sets").LengthSet()
    return (lengths, module("cells").Cursor([1]), reader, reader([1]), module("lengths").Verdict(reader),
            module("fronts").Front(lengths), module("checker").Claim(reader, ("never", ())),
            module("sessions").Session(reader), module("console").Console(reader))


class Interface(unittest.TestCase):
    def test_all_modules_are_here(self):
        told = {*FUNCTIONS, *CLASSES}
        self.assertEqual(told, set(MODULES))

    def test_attributes(self):
        for (name, owner), thing in zip(ATTRIBUTES, objects()):
            self.assertIs(type(thing), getattr(module(name), owner))
            for attribute in ATTRIBUTES[name, owner].split():
                self.assertTrue(hasattr(thing, attribute), attribute)

    def test_modules_use_only_those_ahead_of_them(self):
        """As far as they are listed in the interface."""
        for index, name in enumerate(MODULES):
            used = {line.split()[1].split(".")[1] for line in inspect.getsource(module(name)).split("\n")
                    if line.startswith("from withinlimits.")}
            self.assertEqual(used & set(MODULES[index:]), set(), name)

    def test_functions_and_classes(self):
        for table, test in ((FUNCTIONS, inspect.isfunction), (CLASSES, inspect.isclass)):
            for name, things in table.items():
                for thing, wanted in things.items():
                    found = getattr(module(name), thing)
                    self.assertTrue(test(found), thing)
                    self.assertEqual(found.__module__, "withinlimits." + name)
                    if wanted is not None:
                        self.assertEqual(str(inspect.signature(found)), wanted, thing)

    def test_methods_stand_in_the_class_itself(self):
        for (name, owner), methods in METHODS.items():
            body = vars(getattr(module(name), owner))
            for method, wanted in methods.items():
                self.assertIn(method, body)
                self.assertEqual(isinstance(body[method], staticmethod), method in STATIC)
                if wanted is None:
                    continue
                signature = inspect.signature(getattr(body[method], "__func__", body[method]))
                parameters = list(signature.parameters.values())[0 if method in STATIC else 1:]
                self.assertEqual(str(signature.replace(parameters=parameters)), wanted, method)


if __name__ == "__main__":
    unittest.main()
