"""Some rules of LANGUAGE.md that a short test can see in the files of the package."""

import ast
import builtins
import inspect
import os
import unittest

from openlines.desk import Desk
from openlines.registry import Registry

PACKAGE = os.path.join(os.path.dirname(os.path.dirname(os.path.abspath(__file__))), "openlines")

BUILTINS = (
    "len range enumerate zip min max sum abs sorted reversed int str bool bytes list tuple dict set frozenset "
    "isinstance ord repr any all divmod pow getattr hasattr setattr iter next Exception ValueError TypeError "
    "KeyError IndexError LookupError ZeroDivisionError ArithmeticError OverflowError RuntimeError "
    "NotImplementedError AttributeError StopIteration NotImplemented map property staticmethod classmethod super"
).split()
LIBRARY = ("heapq", "math", "itertools", "collections", "__future__")
STATEMENTS_OUT = (ast.Global, ast.AsyncFunctionDef, ast.AsyncFor, ast.AsyncWith, ast.Await, ast.Import)
NODES_OUT = (ast.GeneratorExp, ast.AnnAssign, ast.NamedExpr)
WORDS_OUT = (
    "register mro elements open input law version_info with_traceback add_note type typing enum overload dataclass "
    "compile copyright credits delattr dir eval exec exit gc globals help id importlib license locals os quit vars"
).split()
METHODS = (
    "append extend get index isalpha isascii isdigit islower items join pop remove setdefault split update values"
).split()

# The interface as the document tells it.
INTERFACE = {
    "rows": ["is_body(call, thing)"],
    "lines": ["merged(lists)", "is_ring(lists, thing)"],
    "futures": ["future_line(registry, bases)", "future_lists(registry, most)", "targets(registry, kind, call)",
                "verdict(registry, kind, call, target)", "shows(registry, kind, call, target, paper)"],
    "chains": ["chain(registry, call, kinds, *, lost=False)",
               "shows_chain(registry, call, kinds, paper, *, lost=False)"],
    "runs": ["courses(registry, kind, call)", "longest(registry, kind, call)", "lost(registry, kind, call)",
             "seals(registry, kind, call)", "seal_paper(registry, kind, call, target)",
             "shows_seal(registry, kind, call, target, paper)"],
    "repairs": ["kept(registry, bases)", "shows_kept(registry, bases, paper)", "ordered(registry, bases)",
                "telling(one, other)"],
    "texts": ["show_body(body)", "read_body(call, string)", "show_registry(registry)", "read_registry(string)",
              "show_event(event)"],
}
METHODS_OF_A_DESK = ["__init__(self, string='')", "say(self, command)", "say_all(self, *commands, stop=True)"]
METHODS_OF_A_REGISTRY = [
    "add(self, name, bases=())", "rebase(self, name, bases)", "drop(self, name)", "set_body(self, kind, call, body)",
    "clear_body(self, kind, call)", "undo(self)", "kinds(self)", "bases(self, kind)", "line(self, kind)",
    "calls(self, kind)", "body(self, kind, call)", "below(self, kind)", "has(self, thing)", "deeds(self)",
    "is_name(thing)", "built(cls, rows)", "first(self, kind, call)", "following(self, kind, definer, call)",
    "run(self, kind, call)", "cached(self)", "make(self, kind)", "move(self, number, kind)", "discard(self, number)",
    "objects(self)", "begin(self, number, call)", "step(self, number)", "steps(self, number)", "stop(self, number)",
    "opened(self)", "stack(self, number)", "rest(self, number)", "difference(self, number, kind)",
]


def told_arguments(node):
    """The arguments of a function as they are written, without the parentheses around them."""
    return ast.unparse(node.args)


def files():
    """The files of the package: a list of (name, text, tree)."""
    found = []
    for name in sorted(os.listdir(PACKAGE)):
        if name.endswith(".py"):
            with open(os.path.join(PACKAGE, name), encoding="utf-8") as held:
                text = held.read()
            found.append((name, text, ast.parse(text)))
    return found


def bound_names(tree):
    """All names that a file binds somewhere, except those of methods."""
    methods = [part for node in ast.walk(tree) if isinstance(node, ast.ClassDef) for part in node.body]
    names = set()
    for node in ast.walk(tree):
        if isinstance(node, (ast.FunctionDef, ast.ClassDef)) and node not in methods:
            names.add(node.name)
        elif isinstance(node, ast.Name) and not isinstance(node.ctx, ast.Load):
            names.add(node.id)
        elif isinstance(node, ast.arg):
            names.add(node.arg)
        elif isinstance(node, ast.alias):
            names.add(node.asname or node.name)
        elif isinstance(node, ast.ExceptHandler) and node.name:
            names.add(node.name)
    return names


class LanguageTest(unittest.TestCase):
    def test_the_folder_contains_only_files_of_the_package(self):
        for name in os.listdir(PACKAGE):
            self.assertTrue(name == "__pycache__" or name.endswith(".py"), name)

    def test_sizes_and_characters(self):
        for name, text, tree in files():
            lines = text.splitlines()
            self.assertLessEqual(len(lines), 399, name)
            for line in lines:
                self.assertLessEqual(len(line), 120, name)
            self.assertTrue(all([letter == "\n" or " " <= letter <= "~" for letter in text]), name)
            for node in ast.walk(tree):
                if isinstance(node, ast.FunctionDef):
                    self.assertLessEqual(node.end_lineno - node.lineno + 1, 40, (name, node.name))

    def test_imports(self):
        trees = {name[:-3]: tree for name, _, tree in files()}
        for name, _, tree in files():
            for node in ast.walk(tree):
                if isinstance(node, ast.ImportFrom):
                    self.assertEqual(node.level, 0, name)
                    self.assertIn(node, tree.body, name)
                    top, _, rest = node.module.partition(".")
                    if top == "openlines":
                        defined = [getattr(part, "name", None) for part in trees[rest].body]
                        defined += [part.targets[0].id for part in trees[rest].body if isinstance(part, ast.Assign)]
                        for alias in node.names:
                            self.assertIn(alias.name, defined, name)
                    else:
                        self.assertIn(top, LIBRARY, name)

    def test_statements(self):
        for name, _, tree in files():
            for node in ast.walk(tree):
                self.assertNotIsInstance(node, STATEMENTS_OUT, name)
                self.assertFalse(isinstance(node, ast.Constant) and isinstance(node.value, (float, complex)), name)
                self.assertFalse(isinstance(node, ast.Div), name)
                self.assertFalse(isinstance(node, ast.Constant) and isinstance(node.value, str)
                                 and "%" in node.value, name)
                self.assertFalse(isinstance(node, ast.ExceptHandler) and node.type is None, name)

    def test_names_are_bound_or_listed(self):
        for name, _, tree in files():
            bound = bound_names(tree)
            self.assertEqual(sorted(bound & (set(BUILTINS) | set(dir(builtins)))), [], name)
            for node in ast.walk(tree):
                if isinstance(node, ast.Name) and isinstance(node.ctx, ast.Load):
                    self.assertTrue(node.id in bound or node.id in BUILTINS, (name, node.id))

    def test_words_that_do_not_occur(self):
        for name, _, tree in files():
            for node in ast.walk(tree):
                words = [getattr(node, field, None) for field in ("id", "attr", "arg", "name")]
                for word in words:
                    self.assertNotIn(word, WORDS_OUT, name)
                self.assertNotIsInstance(node, NODES_OUT, name)

    def test_sets_are_not_stored(self):
        # A method of the package is called add, so sets are only sorted, measured or asked on the spot.
        for name, _, tree in files():
            for node in ast.walk(tree):
                if isinstance(node, ast.Assign):
                    self.assertNotIsInstance(node.value, (ast.Set, ast.SetComp), name)
                    called = node.value.func if isinstance(node.value, ast.Call) else None
                    self.assertNotEqual(getattr(called, "id", ""), "set", name)

    def test_methods_of_builtin_values(self):
        methods = [node.name for _, _, tree in files() for node in ast.walk(tree) if isinstance(node, ast.FunctionDef)]
        for name, _, tree in files():
            for node in ast.walk(tree):
                if isinstance(node, ast.Call) and isinstance(node.func, ast.Attribute):
                    self.assertIn(node.func.attr, methods + METHODS, name)

    def test_each_part_of_the_interface_stands_in_its_file(self):
        trees = {name[:-3]: tree for name, _, tree in files()}
        for module, listed in INTERFACE.items():
            defined = {node.name: told_arguments(node) for node in trees[module].body
                       if isinstance(node, ast.FunctionDef)}
            for row in listed:
                name, _, arguments = row.partition("(")
                self.assertEqual(defined[name], arguments[:-1])

    def check_class(self, module, word, methods):
        trees = {name[:-3]: tree for name, _, tree in files()}
        made = [node for node in trees[module].body if isinstance(node, ast.ClassDef)]
        self.assertEqual([(node.name, node.bases) for node in made], [(word, [])])
        defined = {node.name: told_arguments(node) for node in made[0].body if isinstance(node, ast.FunctionDef)}
        for row in methods:
            name, _, arguments = row.partition("(")
            self.assertEqual(defined[name], arguments[:-1])
        listed = [row.partition("(")[0] for row in methods if not row.startswith("_")]
        self.assertEqual(sorted([name for name in defined if not name.startswith("_")]), sorted(listed))

    def test_each_method_stands_in_the_class(self):
        self.check_class("registry", "Registry", METHODS_OF_A_REGISTRY)
        self.assertEqual(list(inspect.signature(Registry).parameters), [])
        self.check_class("desk", "Desk", METHODS_OF_A_DESK)
        self.assertEqual(list(inspect.signature(Desk).parameters), ["string"])


if __name__ == "__main__":
    unittest.main()
