"""Rules of the program's language that can be told file by file."""

import ast
import os
import re
import unittest

PACKAGE = os.path.join(os.path.dirname(os.path.dirname(os.path.abspath(__file__))), "faceabout")
METHODS = {"__init__", "__eq__", "__repr__", "__str__", "__len__", "__enter__", "__exit__", "__call__", "__iter__"}
BUILTINS = {
    "len", "range", "enumerate", "zip", "min", "max", "sum", "abs", "sorted", "reversed", "int", "str", "bool",
    "bytes", "list", "tuple", "dict", "set", "frozenset", "isinstance", "ord", "repr", "any", "all", "divmod",
    "iter", "next", "super", "property", "staticmethod", "classmethod",
    "Exception", "ValueError", "TypeError", "KeyError", "IndexError", "LookupError", "ZeroDivisionError",
    "ArithmeticError", "OverflowError", "RuntimeError", "NotImplementedError", "AttributeError", "StopIteration",
    "NotImplemented",
}
BARRED = (
    "type typing typing_extensions enum Enum IntEnum StrEnum Flag IntFlag Generic Protocol ABC ABCMeta namedtuple "
    "NamedTuple TypedDict TYPE_CHECKING abstractmethod").split()
BARRED_PARTS = ("dataclass", "overload", "contextmanager")
NOT_ALLOWED = (
    ast.Global, ast.AsyncFunctionDef, ast.AsyncFor, ast.AsyncWith, ast.Await, ast.Import, ast.Div, ast.MatMult)
UNNAMED = "_"


def texts():
    """The files of the package, by name, with their texts."""
    found = {}
    for name in sorted(os.listdir(PACKAGE)):
        if name != "__pycache__":
            with open(os.path.join(PACKAGE, name), encoding="utf-8") as file:
                found[name] = file.read()
    return found


def names_bound(node):
    """The names that a node of the code gives to something."""
    if isinstance(node, (ast.FunctionDef, ast.ClassDef)):
        return [node.name]
    if isinstance(node, ast.Name) and not isinstance(node.ctx, ast.Load):
        return [node.id]
    if isinstance(node, ast.arg):
        return [node.arg]
    return []


class Language(unittest.TestCase):
    def nodes(self):
        for name, text in texts().items():
            for node in ast.walk(ast.parse(text)):
                yield name, node

    def test_files(self):
        for name, text in texts().items():
            self.assertRegex(name, r"^[a-z_0-9]+\.py$")
            self.assertRegex(text, r"^[ -~\n]*$")
            lines = text.split("\n")
            self.assertLess(len(lines), 400, name)
            self.assertLessEqual(max(len(line) for line in lines), 120, name)
            for word in BARRED:
                self.assertIsNone(re.search(rf"\b{word}\b", text), (name, word))
            for part in BARRED_PARTS:
                self.assertNotIn(part, text)

    def test_functions_have_at_most_40_lines(self):
        for name, node in self.nodes():
            if isinstance(node, ast.FunctionDef):
                self.assertLessEqual(node.end_lineno - node.lineno + 1, 40, (name, node.name))

    def test_imports_come_from_the_package(self):
        for name, node in self.nodes():
            if isinstance(node, ast.ImportFrom):
                self.assertEqual(node.level, 0, name)
                self.assertRegex(node.module, r"^faceabout\.[a-z]+$")
                self.assertEqual([alias.name for alias in node.names if alias.asname or alias.name == "*"], [])
                defined = ast.parse(texts()[node.module.split(".")[1] + ".py"]).body
                there = [bound for each in defined for inner in [each, *getattr(each, "targets", [])]
                         for bound in names_bound(inner)]
                self.assertEqual([alias.name for alias in node.names if alias.name not in there], [], name)

    def test_nothing_that_is_not_allowed(self):
        for name, node in self.nodes():
            self.assertNotIsInstance(node, NOT_ALLOWED, name)
            if isinstance(node, ast.Constant):
                self.assertNotIsInstance(node.value, (float, complex), name)
                if isinstance(node.value, str):
                    self.assertNotIn("%", node.value, name)

    def test_what_rows_with_equality_rule_out(self):
        listed = ("any", "all", "min", "max", "sum", "sorted")
        for name, node in self.nodes():
            if isinstance(node, ast.Call) and isinstance(node.func, ast.Name) and node.func.id in listed:
                self.assertEqual([arg for arg in node.args if isinstance(arg, ast.GeneratorExp)], [], name)
            if isinstance(node, ast.Attribute):
                self.assertNotEqual(node.attr, "sort", name)

    def test_names(self):
        for name, node in self.nodes():
            for bound in names_bound(node):
                self.assertFalse(bound.startswith(UNNAMED) and bound not in METHODS, (name, bound))
                self.assertNotIn(bound, BUILTINS, name)

    def test_builtins(self):
        for name, text in texts().items():
            tree = ast.parse(text)
            known = set(BUILTINS)
            for node in ast.walk(tree):
                known.update(names_bound(node))
                if isinstance(node, ast.ImportFrom):
                    known.update(alias.name for alias in node.names)
            for node in ast.walk(tree):
                if isinstance(node, ast.Name):
                    self.assertIn(node.id, known, name)

    def test_generators_have_names_of_their_own_and_are_iterated_at_once(self):
        made = [node.name for _, node in self.nodes() if isinstance(node, ast.FunctionDef)]
        yielding = [
            node.name for _, node in self.nodes() if isinstance(node, ast.FunctionDef)
            and any(isinstance(inner, (ast.Yield, ast.YieldFrom)) for inner in ast.walk(node))]
        self.assertEqual(sorted(yielding), ["rows_of", "ways"])
        for name in yielding:
            self.assertEqual(made.count(name), 1)
        called = [node for _, node in self.nodes() if isinstance(node, ast.Call)]
        listed = [arg for node in called if ast.unparse(node.func) == "list" for arg in node.args]
        for node in called:
            if ast.unparse(node.func) in yielding:
                self.assertIn(node, listed)

    def test_no_name_is_a_method_and_an_attribute(self):
        methods, attributes, read = set(), set(), set()
        for _, node in self.nodes():
            if isinstance(node, ast.ClassDef):
                methods.update(each.name for each in node.body if isinstance(each, ast.FunctionDef))
            if isinstance(node, ast.Attribute):
                (read if isinstance(node.ctx, ast.Load) else attributes).add(node.attr)
        builtin = {name for kind in (str, int, bytes, list, dict, set, tuple) for name in dir(kind)}
        self.assertEqual(methods & attributes, set())
        self.assertEqual((methods | attributes) & builtin - METHODS, set())
        self.assertEqual(read - methods - attributes - builtin, set())

    def test_with_only_over_trials_that_put_attributes_back(self):
        for name, node in self.nodes():
            if isinstance(node, ast.FunctionDef) and node.name == "__exit__":
                self.assertEqual([arg.arg for arg in node.args.args], ["self", "kind", "value", "trace"])
                for row in node.body:
                    self.assertIsInstance(row, ast.Assign)
                    self.assertIsInstance(row.value, ast.Attribute)
                    self.assertEqual([type(target) for target in row.targets], [ast.Attribute])

    def test_no_local_name_of_an_import_or_a_class(self):
        for name, text in texts().items():
            tree = ast.parse(text)
            outer = [node.name for node in tree.body if isinstance(node, ast.ClassDef)]
            for node in tree.body:
                if isinstance(node, ast.ImportFrom):
                    outer += [alias.name for alias in node.names]
            for node in ast.walk(tree):
                if not isinstance(node, ast.ClassDef):
                    for bound in names_bound(node):
                        self.assertNotIn(bound, outer, name)


if __name__ == "__main__":
    unittest.main()
