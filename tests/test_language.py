"""The rules of the language for the package that can be told from its files alone."""

import ast
import pathlib
import re
import unittest

PACKAGE = pathlib.Path(__file__).resolve().parent.parent / "withinlimits"
FILES = sorted(PACKAGE.glob("*.py"))

BUILTINS = set(
    "len range enumerate zip min max sum abs sorted reversed int str bool bytes list tuple dict set frozenset isinstance "
    "ord repr any all divmod Exception ValueError TypeError KeyError IndexError LookupError ZeroDivisionError "
    "ArithmeticError OverflowError RuntimeError NotImplementedError AttributeError StopIteration NotImplemented iter "
    "next super property staticmethod classmethod".split())

BARRED_WORDS = re.compile(
    r"\b(type|typing|typing_extensions|enum|Enum|IntEnum|StrEnum|Flag|IntFlag|Generic|Protocol|ABC|ABCMeta|namedtuple|"
    r"NamedTuple|TypedDict|TYPE_CHECKING|abstractmethod)\b|dataclass|overload|contextmanager")

BARRED_NAMES = set(
    "register mro elements open input law version_info with_traceback add_note attrgetter breakpoint builtins compile "
    "copyright credits delattr dir eval exec exit gc getattr globals hasattr help id importlib license locals "
    "methodcaller os quit setattr type vars sys".split())

BARRED_NODES = (
    ast.Global, ast.AsyncFunctionDef, ast.AsyncFor, ast.AsyncWith, ast.Await, ast.SetComp, ast.Import, ast.Div)


def names_of(tree):
    """All names that a file binds or reads, with attributes, parameters and keywords."""
    for node in ast.walk(tree):
        for field in ("id", "attr", "arg", "name"):
            name = getattr(node, field, None)
            if isinstance(name, str):
                yield name


def bound_names(tree):
    """All names that a file binds, at module level or further in."""
    for node in ast.walk(tree):
        if isinstance(node, ast.Name) and not isinstance(node.ctx, ast.Load):
            yield node.id
        elif isinstance(node, ast.arg):
            yield node.arg
        elif isinstance(node, (ast.FunctionDef, ast.ClassDef, ast.ExceptHandler)):
            yield node.name
        elif isinstance(node, ast.ImportFrom):
            for one in node.names:
                yield one.asname or one.name


class Language(unittest.TestCase):
    def each(self):
        return [(file.read_text(), ast.parse(file.read_text())) for file in FILES]

    def test_files(self):
        self.assertTrue(FILES)
        others = [one.name for one in PACKAGE.iterdir() if one not in FILES and one.name != "__pycache__"]
        self.assertEqual(others, [])

    def test_sizes(self):
        for text, tree in self.each():
            self.assertLessEqual(len(text.splitlines()), 399)
            self.assertLessEqual(max(len(line) for line in text.split("\n")), 120)
            for node in ast.walk(tree):
                if isinstance(node, ast.FunctionDef):
                    self.assertLessEqual(node.end_lineno - node.lineno + 1, 40, node.name)

    def test_characters_and_words(self):
        for text, tree in self.each():
            self.assertEqual(re.findall(r"[^ -~\n]", text), [])
            self.assertIsNone(BARRED_WORDS.search(text))

    def test_names(self):
        for text, tree in self.each():
            for name in names_of(tree):
                self.assertTrue(not name.startswith("_") or (name.startswith("__") and name.endswith("__")), name)
                self.assertNotIn(name, BARRED_NAMES)
            self.assertEqual(BUILTINS & set(bound_names(tree)), set())
            read = {node.id for node in ast.walk(tree) if isinstance(node, ast.Name)}
            self.assertEqual(read - set(bound_names(tree)) - BUILTINS, set())

    def test_imports_name_the_file_that_defines(self):
        for text, tree in self.each():
            for node in ast.walk(tree):
                if isinstance(node, ast.ImportFrom):
                    self.assertEqual((node.level, node.module.split(".")[0]), (0, "withinlimits"))
                    other = ast.parse((PACKAGE / (node.module.split(".")[1] + ".py")).read_text())
                    defined = {name for one in other.body if not isinstance(one, ast.ImportFrom)
                               for name in bound_names(one)}
                    self.assertEqual({one.name for one in node.names} - defined, set())
                    for one in node.names:
                        self.assertGreater(len(re.findall(rf"\b{one.name}\b", text)), 1, "not used")

    def test_no_local_name_is_a_class_or_an_import(self):
        for text, tree in self.each():
            taken = {name for one in tree.body if isinstance(one, ast.ImportFrom) for name in bound_names(one)}
            taken |= {one.name for one in tree.body if isinstance(one, ast.ClassDef)}
            for function in [node for node in ast.walk(tree) if isinstance(node, ast.FunctionDef)]:
                inner = [name for one in (function.args, *function.body) for name in bound_names(one)]
                self.assertEqual(taken & set(inner), set(), function.name)

    def test_strings(self):
        for text, tree in self.each():
            for node in ast.walk(tree):
                if isinstance(node, ast.Constant) and isinstance(node.value, str):
                    self.assertNotIn("%", node.value)

    def test_functions_of_tables_are_called_by_a_name_of_their_own(self):
        for text, tree in self.each():
            for node in ast.walk(tree):
                if isinstance(node, ast.Call):
                    self.assertIsInstance(node.func, (ast.Name, ast.Attribute))

    def test_what_takes_a_list(self):
        """A class has operators, so these take no generator, and an order, so they take plain numbers."""
        for text, tree in self.each():
            for node in ast.walk(tree):
                self.assertNotIsInstance(node, ast.GeneratorExp)
                if isinstance(node, ast.Call) and ast.unparse(node.func) in ("min", "max", "sorted"):
                    has_plain = any(isinstance(one, ast.Constant) for one in node.args)
                    self.assertTrue(has_plain or "int(" in ast.unparse(node))

    def test_nodes(self):
        for text, tree in self.each():
            for node in ast.walk(tree):
                self.assertNotIsInstance(node, BARRED_NODES)
                # An operator may not change a variable by += once a class has an in-place operator.
                self.assertFalse(isinstance(node, ast.AugAssign) and isinstance(node.op, ast.Add))
                if isinstance(node, ast.Compare) and any(isinstance(op, (ast.Is, ast.IsNot)) for op in node.ops):
                    self.assertTrue(all(isinstance(one, ast.Constant) for one in node.comparators))

    def test_no_name_is_a_method_and_an_attribute(self):
        methods, attributes, properties = set(), set(), set()
        for text, tree in self.each():
            for owner in [node for node in tree.body if isinstance(node, ast.ClassDef)]:
                for node in owner.body:
                    if isinstance(node, ast.FunctionDef):
                        marks = {ast.unparse(one) for one in node.decorator_list}
                        is_property = "property" in marks or node.name + ".setter" in marks
                        (properties if is_property else methods).add(node.name)
            attributes |= {node.attr for node in ast.walk(tree)
                           if isinstance(node, ast.Attribute) and not isinstance(node.ctx, ast.Load)}
        self.assertEqual(methods & (attributes | properties), set())
        self.assertEqual(properties & attributes, set())


if __name__ == "__main__":
    unittest.main()
