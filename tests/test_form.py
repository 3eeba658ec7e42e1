"""The interface stands where the document lists it, and the files keep the plainest rules of the language subset."""

import ast
import inspect
import pathlib
import re
import unittest

from flipthreads import errors, sheets, values

PACKAGE = pathlib.Path(errors.__file__).parent
BUILTINS = """len range enumerate zip min max sum abs sorted reversed int str bool list tuple dict set isinstance ord
repr any all divmod iter next super property staticmethod classmethod NotImplemented Exception ValueError TypeError
KeyError
IndexError LookupError ZeroDivisionError""".split()
BARRED_WORDS = """type typing typing_extensions enum Enum IntEnum StrEnum Flag IntFlag Generic Protocol ABC ABCMeta
namedtuple NamedTuple TypedDict TYPE_CHECKING abstractmethod""".split()
BARRED_PARTS = ["dataclass", "overload", "contextmanager"]
UNUSED = "register mro elements open input law version_info with_traceback add_note".split()
SPECIAL = "__init__ __eq__ __repr__ __len__ __call__ __add__ __mul__ __rmul__ __bool__ __contains__".split()
SHEET_METHODS = """drum nails lines is_plain triangles order triangle ends turns sides can_flip flipped renamed
__init__ __eq__ __repr__""".split()


def files():
    return sorted(PACKAGE.glob("*.py"))


def trees():
    return [(path.name, ast.parse(path.read_text(encoding="ascii"))) for path in files()]


def bound_names(tree):
    for node in ast.walk(tree):
        if isinstance(node, (ast.FunctionDef, ast.ClassDef)):
            yield node.name
        elif isinstance(node, ast.arg):
            yield node.arg
        elif isinstance(node, ast.Name) and isinstance(node.ctx, ast.Store):
            yield node.id
        elif isinstance(node, ast.Attribute):
            yield node.attr


class Interface(unittest.TestCase):
    def test_functions_stand_in_their_files(self):
        for name in ("is_name", "least_turn", "same_round"):
            self.assertEqual(getattr(values, name).__module__, "flipthreads.values")

    def test_errors_stand_in_their_file(self):
        found = [name for name, value in vars(errors).items() if inspect.isclass(value)]
        self.assertEqual(len(found), 31)
        self.assertEqual({getattr(errors, name).__module__ for name in found}, {"flipthreads.errors"})

    def test_methods_stand_in_the_class_itself(self):
        self.assertEqual(sheets.Sheet.__module__, "flipthreads.sheets")
        for name in SHEET_METHODS + ["MOST"]:
            self.assertIn(name, vars(sheets.Sheet))
        for name in ("nails", "lines", "is_plain"):
            self.assertIsInstance(vars(sheets.Sheet)[name], property)
        self.assertIsInstance(vars(sheets.Sheet)["drum"], staticmethod)

    def test_parameters(self):
        signatures = {
            sheets.Sheet: "(triangles, *, order=())", sheets.Sheet.drum: "(nails)",
            sheets.Sheet.triangle: "(self, line)", sheets.Sheet.ends: "(self, line)",
            sheets.Sheet.turns: "(self, line)", sheets.Sheet.sides: "(self, line)",
            sheets.Sheet.can_flip: "(self, line)",
            sheets.Sheet.flipped: "(self, *flips)", sheets.Sheet.renamed: "(self, renaming)",
            values.is_name: "(value)", values.least_turn: "(items)", values.same_round: "(one, other)",
        }
        for function, expected in signatures.items():
            self.assertEqual(str(inspect.signature(function)), expected)


class Form(unittest.TestCase):
    def test_the_folder_has_nothing_else(self):
        found = {path.name for path in PACKAGE.iterdir()} - {"__pycache__"}
        self.assertEqual(found, {path.name for path in files()})
        for name in found:
            self.assertRegex(name, r"\A([a-z][a-z0-9_]*|__init__)\.py\Z")

    def test_sizes_and_characters(self):
        for path in files():
            text = path.read_text(encoding="ascii")
            rows = text.split("\n")
            self.assertLessEqual(len(rows), 400, path.name)
            self.assertEqual([row for row in rows if len(row) > 120], [], path.name)
            self.assertRegex(text, r"\A[ -~\n]*\Z", path.name)
            for node in ast.walk(ast.parse(text)):
                if isinstance(node, ast.FunctionDef):
                    self.assertLessEqual(node.end_lineno - node.lineno, 39, node.name)

    def test_imports(self):
        for name, tree in trees():
            for node in ast.walk(tree):
                self.assertNotIsInstance(node, ast.Import, name)
                if isinstance(node, ast.ImportFrom):
                    self.assertIn(node, tree.body)
                    self.assertRegex(node.module, r"\Aflipthreads\.[a-z]+\Z")
                    self.assertEqual(node.level, 0)

    def test_names(self):
        for file, tree in trees():
            for name in bound_names(tree):
                self.assertTrue(re.match(r"[A-Za-z]\w*\Z", name) or name in SPECIAL, (file, name))
                self.assertNotIn(name, UNUSED, file)

    def test_barred_words(self):
        for path in files():
            text = path.read_text(encoding="ascii")
            self.assertEqual([word for word in re.findall(r"\w+", text) if word in BARRED_WORDS], [], path.name)
            self.assertEqual([part for part in BARRED_PARTS if part in text], [], path.name)

    def test_only_listed_builtins(self):
        for file, tree in trees():
            known = set(bound_names(tree)) | set(BUILTINS)
            for node in ast.walk(tree):
                if isinstance(node, ast.ImportFrom):
                    known |= {alias.name for alias in node.names}
            for node in ast.walk(tree):
                if isinstance(node, ast.Name):
                    self.assertIn(node.id, known, file)

    def test_no_barred_statements_and_no_generator_expressions(self):
        barred = (ast.Global, ast.AsyncFunctionDef, ast.GeneratorExp, ast.Div, ast.Await)
        for file, tree in trees():
            for node in ast.walk(tree):
                self.assertNotIsInstance(node, barred, file)
                if isinstance(node, ast.Constant):
                    self.assertNotIsInstance(node.value, (float, complex), file)
                    self.assertNotIn("\x25", str(node.value), file)

    def test_no_name_is_a_method_and_an_attribute(self):
        methods, attributes = set(), set()
        for _, tree in trees():
            for node in ast.walk(tree):
                if isinstance(node, ast.ClassDef):
                    methods |= {row.name for row in node.body if isinstance(row, ast.FunctionDef)}
                if isinstance(node, ast.Attribute) and isinstance(node.ctx, ast.Store):
                    attributes.add(node.attr)
        self.assertEqual(methods & attributes, set())


if __name__ == "__main__":
    unittest.main()
