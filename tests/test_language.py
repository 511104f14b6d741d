"""The package keeps to the plain part of Python: no clock, no chance, no files (promise [2]).

This looks only for what a program can see easily; it does not stand for reading the rules.
"""

import ast
import builtins
import inspect
import pathlib
import unittest

from guessrests import (
    bounds, comparing, conditions, doubling, errors, families, guessing, listening, names, once, reading, sure, telling,
    words, writing,
)

PACKAGE = pathlib.Path(__file__).resolve().parent.parent / "guessrests"
LIBRARY = {
    "heapq": {"heappush", "heappop", "heapify", "heapreplace", "heappushpop"},
    "math": {"gcd", "lcm", "isqrt", "comb", "perm", "factorial"},
    "itertools": {
        "product", "combinations", "permutations", "chain", "accumulate", "pairwise", "islice", "zip_longest",
    },
    "collections": {"defaultdict", "deque"},
}
ALLOWED_BUILTINS = set(
    "len range enumerate zip min max sum abs sorted reversed int str bool bytes list tuple dict set frozenset"
    " isinstance ord repr any all divmod pow getattr hasattr setattr iter next map type super property"
    " staticmethod classmethod Exception ValueError TypeError KeyError IndexError LookupError ZeroDivisionError"
    " ArithmeticError OverflowError RuntimeError NotImplementedError AttributeError StopIteration NotImplemented".split()
)
BARRED_NODES = (
    ast.Global, ast.AsyncFunctionDef, ast.AsyncFor, ast.AsyncWith, ast.Await, ast.Div, ast.MatMult,
)
BARRED_WORDS = (
    "register", "mro", "elements", "open", "input", "law", "version_info", "with_traceback", "add_note",
)
INTERFACE = {
    words: {
        "is_alphabet": ["text"],
        "is_word": ["alphabet", "text"],
        "compare_words": ["alphabet", "left", "right"],
        "word_at": ["alphabet", "n"],
        "number_of": ["alphabet", "word"],
        "words_up_to": ["alphabet", "n"],
    },
    families: {
        "check_family": ["family"],
        "columns_of": ["family"],
        "belongs": ["family", "name", "thing"],
    },
    names: {
        "within": ["family", "name", "other"],
        "alike": ["family", "name", "other"],
        "parting_thing": ["family", "name", "other"],
        "things_up_to": ["family", "name", "n"],
        "thing_at": ["family", "name", "n"],
        "least_new_thing": ["family", "name", "things"],
        "count_of": ["family", "name"],
        "least_alike": ["family", "name"],
    },
    conditions: {
        "check_condition": ["condition", "free"],
        "is_true": ["family", "condition"],
        "holds": ["family", "condition", "free", "values"],
        "least_value": ["family", "condition", "free"],
        "value_at": ["family", "condition", "free", "n"],
        "least_row": ["family", "condition", "free"],
        "count_values": ["family", "condition", "free"],
    },
    bounds: {
        "trap_for": ["family", "name", "n"],
        "is_bound": ["family", "name", "n"],
        "least_bound": ["family", "name"],
        "verdict": ["family"],
    },
    sure: {
        "unlike_holder": ["family", "name", "n"],
        "is_sure": ["family", "name", "n"],
        "least_sure": ["family", "name"],
        "first_verdict": ["family"],
    },
    guessing: {
        "guess": ["family", "things"],
        "first_guess": ["family", "things"],
        "guess_of_both": ["family", "yes", "no"],
    },
    comparing: {
        "opposite": ["family"],
        "swapped": ["family"],
        "difference": ["family", "other"],
        "foreign_name": ["family", "other"],
        "count_sets": ["family"],
        "first_name_at": ["family", "n"],
        "thing_of_all": ["family", "names"],
        "thing_of_one": ["family", "names"],
    },
    writing: {
        "write_family": ["family"],
        "write_condition": ["condition"],
    },
    reading: {
        "read_family": ["text"],
        "read_condition": ["text"],
    },
}
# For each class: the arguments that make one, its properties, and its methods with their arguments.
CLASSES = {
    (telling, "Teller"): (["family", "name"], ["target", "told"], {"tell": ["guess"]}),
    (once, "OnceTeller"): (["family", "name"], ["target", "told"], {"tell": ["guess"]}),
    (listening, "Listener"): (
        ["family"], ["guess", "changes", "heard"], {"hear": ["thing"], "pause": [], "hear_all": ["steps"], "undo": []},
    ),
    (doubling, "DoubleListener"): (["family"], ["guess", "changes", "heard"], {"hear": ["thing", "there"], "undo": []}),
}
ERRORS = ("NoFamily", "NoWord", "NoCondition", "HasBound", "Clash", "BadText")


def sources():
    """Each file of the package with its text and its tree."""
    for path in sorted(PACKAGE.rglob("*.py")):
        text = path.read_text(encoding="utf-8")
        yield path, text, ast.parse(text)


class TestFiles(unittest.TestCase):
    def test_the_package_holds_plain_files_only(self):
        names = [path.name for path in PACKAGE.iterdir() if path.name != "__pycache__"]
        self.assertIn("__init__.py", names)
        for name in names:
            self.assertRegex(name, r"^[a-z0-9_]+\.py$")

    def test_sizes_and_characters(self):
        for path, text, tree in sources():
            lines = text.split("\n")
            self.assertLessEqual(len(lines), 399, path)
            self.assertLessEqual(max(len(line) for line in lines), 120, path)
            self.assertRegex(text, r"\A[ -~\n]*\Z", path)
            for node in ast.walk(tree):
                if isinstance(node, ast.FunctionDef):
                    self.assertLessEqual(node.end_lineno - node.lineno + 1, 40, (path, node.name))

    def test_imports(self):
        for path, _, tree in sources():
            for node in ast.walk(tree):
                self.assertNotIsInstance(node, ast.Import, path)
                if isinstance(node, ast.ImportFrom):
                    self.assertIn(node, tree.body, path)
                    self.assertEqual(node.level, 0, path)
                    self.check_import(path, node)

    def check_import(self, path, node):
        if node.module in LIBRARY:
            self.assertLessEqual({alias.name for alias in node.names}, LIBRARY[node.module], path)
        else:
            self.assertRegex(node.module, r"^guessrests\.[a-z0-9_]+$", path)

    def test_module_level(self):
        plain = (ast.Expr, ast.ImportFrom, ast.FunctionDef, ast.ClassDef, ast.Assign)
        for path, _, tree in sources():
            for node in tree.body:
                self.assertIsInstance(node, plain, path)
                if isinstance(node, ast.Expr):
                    self.assertIsInstance(node.value, ast.Constant, path)

    def test_statements_and_values(self):
        for path, _, tree in sources():
            for node in ast.walk(tree):
                self.assertNotIsInstance(node, BARRED_NODES, path)
                if isinstance(node, ast.Constant):
                    self.assertNotIsInstance(node.value, (float, complex), path)

    def test_builtins(self):
        barred = set(dir(builtins)) - ALLOWED_BUILTINS
        for path, _, tree in sources():
            for node in ast.walk(tree):
                if isinstance(node, ast.Name):
                    self.assertNotIn(node.id, barred, path)

    def test_no_name_of_a_builtin_gets_another_meaning(self):
        for path, _, tree in sources():
            for node in ast.walk(tree):
                if isinstance(node, ast.Name) and isinstance(node.ctx, ast.Store):
                    self.assertFalse(hasattr(builtins, node.id), (path, node.id))
                if isinstance(node, ast.arg):
                    self.assertFalse(hasattr(builtins, node.arg), (path, node.arg))

    def test_no_barred_words(self):
        for path, _, tree in sources():
            for node in ast.walk(tree):
                for field in ("id", "attr", "arg", "name"):
                    self.assertNotIn(getattr(node, field, None), BARRED_WORDS, path)


class TestInterface(unittest.TestCase):
    def test_names_and_arguments(self):
        for module, functions in INTERFACE.items():
            for name, arguments in functions.items():
                function = getattr(module, name)
                self.assertEqual(list(inspect.signature(function).parameters), arguments, name)
                self.assertEqual(function.__module__, module.__name__, name)

    def test_classes(self):
        for (module, name), (arguments, properties, methods) in CLASSES.items():
            own = vars(getattr(module, name))
            self.assertEqual(getattr(module, name).__module__, module.__name__)
            self.assertEqual(list(inspect.signature(getattr(module, name)).parameters), arguments, name)
            for prop in properties:
                self.assertIsInstance(own[prop], property, (name, prop))
            for method, told in methods.items():
                self.assertEqual(list(inspect.signature(own[method]).parameters), ["self"] + told, (name, method))

    def test_errors(self):
        self.assertEqual(errors.GuessError.__bases__, (ValueError,))
        for name in ERRORS:
            self.assertEqual(getattr(errors, name).__bases__, (errors.GuessError,))
            self.assertEqual(getattr(errors, name).__module__, "guessrests.errors")


if __name__ == "__main__":
    unittest.main()
