"""Some rules of LANGUAGE.md that a short test can see in the files of the package."""

import ast
import builtins
import os
import unittest

PACKAGE = os.path.join(os.path.dirname(os.path.dirname(os.path.abspath(__file__))), "openlines")

BUILTINS = (
    "len range enumerate zip min max sum abs sorted reversed int str bool bytes list tuple dict set frozenset "
    "isinstance ord repr any all divmod pow getattr hasattr setattr iter next Exception ValueError TypeError "
    "KeyError IndexError LookupError ZeroDivisionError ArithmeticError OverflowError RuntimeError "
    "NotImplementedError AttributeError StopIteration NotImplemented map property staticmethod classmethod super"
).split()
LIBRARY = ("heapq", "math", "itertools", "collections", "__future__")
STATEMENTS_OUT = (ast.Global, ast.AsyncFunctionDef, ast.AsyncFor, ast.AsyncWith, ast.Await, ast.Import)


def files():
    """The files of the package: a list of (name, text, tree)."""
    found = []
    for name in sorted(os.listdir(PACKAGE)):
        if name.endswith(".py"):
            with open(os.path.join(PACKAGE, name), encoding="utf-8") as held:
                text = held.read()
            found.append((name, text, ast.parse(text)))
    return found


def bound_names(tree):
    """All names that a file binds somewhere, except those of methods."""
    methods = [part for node in ast.walk(tree) if isinstance(node, ast.ClassDef) for part in node.body]
    names = set()
    for node in ast.walk(tree):
        if isinstance(node, (ast.FunctionDef, ast.ClassDef)) and node not in methods:
            names.add(node.name)
        elif isinstance(node, ast.Name) and not isinstance(node.ctx, ast.Load):
            names.add(node.id)
        elif isinstance(node, ast.arg):
            names.add(node.arg)
        elif isinstance(node, ast.alias):
            names.add(node.asname or node.name)
        elif isinstance(node, ast.ExceptHandler) and node.name:
            names.add(node.name)
    return names


class LanguageTest(unittest.TestCase):
    def test_the_folder_contains_only_files_of_the_package(self):
        for name in os.listdir(PACKAGE):
            self.assertTrue(name == "__pycache__" or name.endswith(".py"), name)

    def test_sizes_and_characters(self):
        for name, text, tree in files():
            lines = text.splitlines()
            self.assertLessEqual(len(lines), 399, name)
            for line in lines:
                self.assertLessEqual(len(line), 120, name)
            self.assertTrue(all([letter == "\n" or " " <= letter <= "~" for letter in text]), name)
            for node in ast.walk(tree):
                if isinstance(node, ast.FunctionDef):
                    self.assertLessEqual(node.end_lineno - node.lineno + 1, 40, (name, node.name))

    def test_imports(self):
        trees = {name[:-3]: tree for name, _, tree in files()}
        for name, _, tree in files():
            for node in ast.walk(tree):
                if isinstance(node, ast.ImportFrom):
                    self.assertEqual(node.level, 0, name)
                    self.assertIn(node, tree.body, name)
                    top, _, rest = node.module.partition(".")
                    if top == "openlines":
                        defined = [getattr(part, "name", None) for part in trees[rest].body]
                        defined += [part.targets[0].id for part in trees[rest].body if isinstance(part, ast.Assign)]
                        for alias in node.names:
                            self.assertIn(alias.name, defined, name)
                    else:
                        self.assertIn(top, LIBRARY, name)

    def test_statements(self):
        for name, _, tree in files():
            for node in ast.walk(tree):
                self.assertNotIsInstance(node, STATEMENTS_OUT, name)
                self.assertFalse(isinstance(node, ast.Constant) and isinstance(node.value, (float, complex)), name)
                self.assertFalse(isinstance(node, ast.Div), name)
                self.assertFalse(isinstance(node, ast.Constant) and isinstance(node.value, str)
                                 and "%" in node.value, name)
                self.assertFalse(isinstance(node, ast.ExceptHandler) and node.type is None, name)

    def test_names_are_bound_or_listed(self):
        for name, _, tree in files():
            bound = bound_names(tree)
            self.assertEqual(sorted(bound & (set(BUILTINS) | set(dir(builtins)))), [], name)
            for node in ast.walk(tree):
                if isinstance(node, ast.Name) and isinstance(node.ctx, ast.Load):
                    self.assertTrue(node.id in bound or node.id in BUILTINS, (name, node.id))

    def test_each_function_of_the_interface_stands_in_its_file(self):
        trees = {name[:-3]: tree for name, _, tree in files()}
        for module, listed in (("rows", {"is_body": ["call", "thing"]}),
                               ("lines", {"merged": ["lists"], "is_ring": ["lists", "thing"]})):
            defined = {node.name: [part.arg for part in node.args.args] for node in trees[module].body
                       if isinstance(node, ast.FunctionDef)}
            for name in listed:
                self.assertEqual(defined[name], listed[name])


if __name__ == "__main__":
    unittest.main()
