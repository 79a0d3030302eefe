"""The interface's names and arguments, and the form of the package's own files."""

import ast
import builtins
import importlib
import inspect
import re
import unittest
from pathlib import Path

PACKAGE = Path(__file__).resolve().parent.parent / "rowwright"

INTERFACE = {
    "errors": {},
    "things": {
        "is_row": ["thing", "wide"], "is_lot": ["thing", "wide"], "is_plain": ["thing", "wide"],
        "sum_of": ["counts", "lot", "wide"], "product": ["one", "other"],
    },
    "stacks": {"plain": ["lot", "wide"], "rest": ["lot", "wide", "row"]},
    "ways": {"how": ["lot", "wide"], "made": ["lot", "wide", "row"]},
    "level": {"idle": ["lot", "wide"], "across": ["lot", "wide"], "filled": ["lot", "wide"]},
    "pairs": {
        "together": ["one", "other", "wide"], "shared": ["one", "other", "wide"], "within": ["one", "other", "wide"],
    },
    "sizes": {"weight": ["lot", "wide"], "grades": ["lot", "wide"]},
}

OWN_NAMES = """
    len range enumerate zip min max sum abs sorted reversed int str bool list tuple dict set frozenset isinstance ord
    repr any all divmod Exception ValueError TypeError KeyError IndexError LookupError ZeroDivisionError
    ArithmeticError OverflowError RuntimeError NotImplementedError StopIteration
""".split()

OWN_METHODS = """
    append clear copy count endswith extend find get index insert isalnum isalpha isdigit islower isspace isupper items
    join keys ljust lower lstrip partition pop remove replace reverse rfind rjust rpartition rsplit rstrip setdefault
    split splitlines startswith strip update upper values zfill bit_length
""".split()

BARRED_WORDS = """
    type typing typing_extensions enum Enum IntEnum StrEnum Flag IntFlag Generic Protocol ABC ABCMeta namedtuple
    NamedTuple TypedDict TYPE_CHECKING abstractmethod
""".split()

BARRED_NODES = (
    ast.With, ast.Match, ast.Delete, ast.Global, ast.Nonlocal, ast.Assert, ast.Yield, ast.YieldFrom, ast.Await,
    ast.AsyncFunctionDef, ast.AsyncFor, ast.AsyncWith, ast.SetComp, ast.DictComp, ast.GeneratorExp, ast.NamedExpr,
    ast.Starred, ast.Div, ast.Import, ast.AnnAssign,
)


def files():
    return sorted(PACKAGE.glob("*.py"))


def nodes(file, kinds):
    return [node for node in ast.walk(ast.parse(file.read_text(encoding="utf-8"))) if isinstance(node, kinds)]


def bound_names(file):
    names = [node.id for node in nodes(file, ast.Name) if isinstance(node.ctx, ast.Store)]
    names = names + [node.arg for node in nodes(file, ast.arg)]
    return names + [node.name for node in nodes(file, (ast.FunctionDef, ast.ClassDef))]


class Interface(unittest.TestCase):
    def test_names_and_arguments(self):
        for module, functions in INTERFACE.items():
            loaded = importlib.import_module("rowwright." + module)
            for name, arguments in functions.items():
                self.assertEqual(list(inspect.signature(getattr(loaded, name)).parameters), arguments, name)


class Readme(unittest.TestCase):
    def test_the_examples_hold(self):
        text = (PACKAGE.parent / "README.md").read_text(encoding="utf-8")
        names = {}
        told = 0
        for line in re.search(r"```python\n(.*?)```", text, re.DOTALL).group(1).splitlines():
            asked, sign, answer = line.partition("#")
            if sign == "":
                exec(line, names)
            else:
                told = told + 1
                self.assertEqual(eval(asked, names), eval(answer.split(":")[0].strip()), line)
        self.assertGreater(told, 10)


class Form(unittest.TestCase):
    def test_only_plain_files(self):
        names = [file.name for file in PACKAGE.iterdir() if file.name != "__pycache__"]
        self.assertIn("__init__.py", names)
        for name in names:
            self.assertRegex(name, r"^(__init__|__main__|[a-z][a-z0-9_]*)\.py$")

    def test_signs_and_sizes(self):
        for file in files():
            text = file.read_bytes().decode("ascii")
            self.assertIsNone(re.search(r"[^ -~\n]", text), file.name)
            self.assertLessEqual(len(text.splitlines()), 400, file.name)
            self.assertLessEqual(max([len(line) for line in text.splitlines()]), 120, file.name)
            for node in nodes(file, ast.FunctionDef):
                self.assertLessEqual(node.end_lineno - node.lineno + 1, 40, node.name)

    def test_each_file_and_function_has_a_docstring(self):
        for file in files():
            for node in nodes(file, (ast.Module, ast.FunctionDef)):
                self.assertIsNotNone(ast.get_docstring(node), file.name)

    def test_barred_words(self):
        for file in files():
            words = re.findall(r"\w+", file.read_text(encoding="utf-8"))
            self.assertEqual([word for word in words if word in BARRED_WORDS], [], file.name)

    def test_barred_statements_and_expressions(self):
        for file in files():
            self.assertEqual(nodes(file, BARRED_NODES), [], file.name)
            for node in nodes(file, (ast.For, ast.While)):
                self.assertEqual(node.orelse, [], file.name)
            for node in nodes(file, ast.Assign):
                self.assertEqual(len(node.targets), 1, file.name)
                self.assertNotIsInstance(node.targets[0], (ast.Tuple, ast.List), file.name)
            for node in nodes(file, ast.ListComp):
                self.assertEqual(len(node.generators), 1, file.name)
                self.assertLessEqual(len(node.generators[0].ifs), 1, file.name)
            for node in nodes(file, ast.Constant):
                self.assertIsInstance(node.value, (int, str, bool, type(None)), file.name)

    def test_imports_are_the_packages_own(self):
        for file in files():
            for node in nodes(file, ast.ImportFrom):
                self.assertEqual(node.level, 0, file.name)
                self.assertRegex(node.module, r"^rowwright\.")
                loaded = importlib.import_module(node.module)
                for alias in node.names:
                    self.assertEqual(getattr(loaded, alias.name).__module__, node.module, alias.name)

    def test_no_two_files_draw_from_one_another(self):
        drawn = {file.stem: [node.module.split(".")[1] for node in nodes(file, ast.ImportFrom)] for file in files()}
        while len(drawn) > 0:
            free = [stem for stem in drawn if not any([source in drawn for source in drawn[stem]])]
            self.assertNotEqual(free, [], drawn)
            drawn = {stem: sources for stem, sources in drawn.items() if stem not in free}

    def test_no_name_is_bound_like_an_import(self):
        for file in files():
            drawn = [alias.name for node in nodes(file, ast.ImportFrom) for alias in node.names]
            self.assertEqual(len(set(drawn)), len(drawn), file.name)
            self.assertEqual([name for name in bound_names(file) if name in drawn], [], file.name)

    def test_names(self):
        for file in files():
            for name in bound_names(file):
                self.assertRegex(name, r"^[A-Za-z][A-Za-z0-9_]*$")
                self.assertFalse(hasattr(builtins, name), name)
            for node in nodes(file, ast.Name):
                if hasattr(builtins, node.id):
                    self.assertIn(node.id, OWN_NAMES, file.name)
            for node in nodes(file, ast.Attribute):
                self.assertIn(node.attr, OWN_METHODS, file.name)

    def test_the_checks_see_what_is_barred(self):
        barred = "import os\nx = y = 1 / 2\nprint([a for a in (b for b in c)])\n"
        found = [node for node in ast.walk(ast.parse(barred)) if isinstance(node, BARRED_NODES)]
        self.assertEqual(len(found), 3)


if __name__ == "__main__":
    unittest.main()
