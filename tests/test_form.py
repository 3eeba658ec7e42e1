"""The interface stands where the document lists it, and the files keep the plainest rules of the language subset."""

import ast
import builtins
import inspect
import pathlib
import re
import unittest

from flipthreads import (
    boards, desk, errors, loops, meetings, moves, pages, paths, sheets, sides, splits, values, walks, weaves,
)

PACKAGE = pathlib.Path(errors.__file__).parent
BUILTINS = """len range enumerate zip min max sum abs sorted reversed int str bool list tuple dict set isinstance ord
repr any all divmod iter next super property staticmethod classmethod NotImplemented Exception ValueError TypeError
KeyError
IndexError LookupError ZeroDivisionError""".split()
BARRED_WORDS = """type typing typing_extensions enum Enum IntEnum StrEnum Flag IntFlag Generic Protocol ABC ABCMeta
namedtuple NamedTuple TypedDict TYPE_CHECKING abstractmethod""".split()
BARRED_PARTS = ["dataclass", "overload", "contextmanager"]
UNUSED = "register mro elements open input law version_info with_traceback add_note".split()
SPECIAL = "__init__ __eq__ __repr__ __len__ __call__ __add__ __mul__ __rmul__ __bool__ __contains__".split()
FUNCTIONS = {
    values: ["is_name", "least_turn", "same_round"], loops: ["ring", "loop"], walks: ["walk", "word"],
    splits: ["split", "threads", "is_thread"], sides: ["sides", "is_ring", "parting", "rooms"],
    paths: ["check_path", "tight", "can_shift", "lay"], meetings: ["meet"], moves: ["renamings", "half_turn"],
    pages: ["sheet_text", "read_sheet", "page", "read_page"],
}
# The methods and the properties that stand in the body of each class.
CLASSES = {
    sheets.Sheet: (
        "triangles order triangle ends turns sides can_flip flipped renamed __init__ __eq__ __repr__",
        "nails lines is_plain",
    ),
    weaves.Weave: (
        "counts crossings arcs flipped renamed within __init__ __add__ __mul__ __rmul__ __eq__ __bool__ __repr__",
        "sheet total",
    ),
    paths.Laying: ("told holds __init__ __bool__ __repr__", "sheet path possible"),
    paths.Laid: ("told holds __init__ __bool__ __repr__", "sheet path possible thread"),
    paths.Crossed: ("told holds __init__ __bool__ __repr__", "sheet path possible"),
    paths.Gone: ("told holds __init__ __bool__ __repr__", "sheet path possible"),
    meetings.Meeting: ("told holds __init__ __bool__ __repr__", "one other apart"),
    meetings.Apart: ("told holds __init__ __bool__ __repr__", "one other apart"),
    meetings.Crossing: ("told holds __init__ __bool__ __repr__", "one other apart stranger"),
    moves.Move: ("flips renaming act goals back then does_same parted_by is_idle __init__ __repr__", "sheet"),
    boards.Board: (
        """set_limit apply undo redo history names weave threads_of kept twin __init__ __contains__ __len__ __eq__
        __repr__""", "sheet busy computed limit",
    ),
    desk.Desk: ("say log __init__ __call__ __len__ __repr__", "board"),
}
STATIC = [(sheets.Sheet, "drum"), (weaves.Weave, "empty"), (moves.Move, "idle")]
CLASS_VALUES = [(sheets.Sheet, "MOST", 10), (boards.Board, "MOST", 20)]
BUILTIN_METHODS = """append clear copy count endswith extend find get index insert isalnum isalpha isdigit islower
isspace isupper items join keys ljust lower lstrip partition pop remove replace reverse rfind rjust rpartition rsplit
rstrip setdefault split splitlines startswith strip update upper values zfill bit_length""".split()


def files():
    return sorted(PACKAGE.glob("*.py"))


def trees():
    return [(path.name, ast.parse(path.read_text(encoding="ascii"))) for path in files()]


def bound_names(tree):
    for node in ast.walk(tree):
        if isinstance(node, (ast.FunctionDef, ast.ClassDef)):
            yield node.name
        elif isinstance(node, ast.arg):
            yield node.arg
        elif isinstance(node, ast.Name) and isinstance(node.ctx, ast.Store):
            yield node.id
        elif isinstance(node, ast.Attribute):
            yield node.attr
        elif isinstance(node, ast.ExceptHandler) and node.name:
            yield node.name


def top_names(tree):
    """The names that a file binds at module level, those of its imports included."""
    for node in tree.body:
        if isinstance(node, (ast.FunctionDef, ast.ClassDef)):
            yield node.name
        elif isinstance(node, ast.Assign):
            yield from [target.id for target in node.targets]
        elif isinstance(node, ast.ImportFrom):
            yield from [alias.asname or alias.name for alias in node.names]


def own_methods():
    return [row for _, tree in trees() for node in ast.walk(tree) if isinstance(node, ast.ClassDef)
            for row in node.body if isinstance(row, ast.FunctionDef)]


def functions(tree):
    return [node for node in ast.walk(tree) if isinstance(node, ast.FunctionDef)]


def generator_names():
    return [node.name for _, tree in trees() for node in functions(tree)
            if any(isinstance(inner, (ast.Yield, ast.YieldFrom)) for inner in ast.walk(node))]


class Interface(unittest.TestCase):
    def test_functions_stand_in_their_files(self):
        for module, names in FUNCTIONS.items():
            for name in names:
                self.assertEqual(getattr(module, name).__module__, module.__name__)

    def test_errors_stand_in_their_file(self):
        found = [name for name, value in vars(errors).items() if inspect.isclass(value)]
        self.assertEqual(len(found), 31)
        self.assertEqual({getattr(errors, name).__module__ for name in found}, {"flipthreads.errors"})

    def test_methods_stand_in_the_class_itself(self):
        for kind, (methods, properties) in CLASSES.items():
            self.assertIs(getattr(inspect.getmodule(kind), kind.__name__), kind)
            for name in methods.split():
                self.assertTrue(inspect.isfunction(vars(kind)[name]), (kind, name))
            for name in properties.split():
                self.assertIsInstance(vars(kind)[name], property)
        for kind, name in STATIC:
            self.assertIsInstance(vars(kind)[name], staticmethod)
        for kind, name, value in CLASS_VALUES:
            self.assertEqual(vars(kind)[name], value)

    def test_only_the_limit_can_be_assigned(self):
        for kind, (_, properties) in CLASSES.items():
            for name in properties.split():
                self.assertIs(vars(kind)[name].fset is not None, name == "limit", (kind, name))

    def test_classes_derive_only_as_the_interface_says(self):
        bases = {node.name: [base.id for base in node.bases] for _, tree in trees() for node in ast.walk(tree)
                 if isinstance(node, ast.ClassDef)}
        own = {name: found for name, found in bases.items() if found and found[0] not in dir(builtins)}
        expected = {"Laid": "Laying", "Crossed": "Laying", "Gone": "Laying", "Apart": "Meeting", "Crossing": "Meeting"}
        self.assertEqual({name: own[name] for name in expected}, {name: [expected[name]] for name in expected})
        rest = {name: found for name, found in own.items() if name not in expected}
        self.assertEqual({found[0] for found in rest.values()}, {"ThreadError", "Missing"})

    def test_parameters(self):
        signatures = {
            sheets.Sheet: "(triangles, *, order=())", sheets.Sheet.drum: "(nails)",
            sheets.Sheet.triangle: "(self, line)", sheets.Sheet.ends: "(self, line)",
            sheets.Sheet.turns: "(self, line)", sheets.Sheet.sides: "(self, line)",
            sheets.Sheet.can_flip: "(self, line)",
            sheets.Sheet.flipped: "(self, *flips)", sheets.Sheet.renamed: "(self, renaming)",
            values.is_name: "(value)", values.least_turn: "(items)", values.same_round: "(one, other)",
            weaves.Weave: "(sheet, counts)", weaves.Weave.empty: "(sheet)", weaves.Weave.counts: "(self)",
            weaves.Weave.crossings: "(self, line)", weaves.Weave.arcs: "(self, line)",
            weaves.Weave.flipped: "(self, *flips)", weaves.Weave.renamed: "(self, renaming)",
            weaves.Weave.within: "(self, other)", loops.ring: "(sheet, nail)", loops.loop: "(sheet, line)",
            walks.walk: "(weave, line, at)", walks.word: "(thread)",
            splits.split: "(weave)", splits.threads: "(weave)", splits.is_thread: "(weave)",
            sides.sides: "(thread)", sides.is_ring: "(weave)", sides.parting: "(weave, one, other)",
            sides.rooms: "(weave)", paths.check_path: "(sheet, path)", paths.tight: "(sheet, path)",
            paths.can_shift: "(sheet, one, other)", paths.lay: "(sheet, path)", paths.Laying: "(sheet, path)",
            paths.Laid: "(sheet, path, thread)", paths.Crossed: "(sheet, path)", paths.Gone: "(sheet, path)",
            meetings.Meeting: "(one, other)", meetings.Apart: "(one, other)",
            meetings.Crossing: "(one, other, stranger)", meetings.meet: "(one, other)",
            moves.renamings: "(one, other)", moves.half_turn: "(sheet, line)",
            moves.Move: "(sheet, flips, renaming)", moves.Move.idle: "(sheet)", moves.Move.act: "(self, weave)",
            moves.Move.goals: "(self)", moves.Move.back: "(self)", moves.Move.parted_by: "(self, other)",
            moves.Move.then: "(self, other)", moves.Move.does_same: "(self, other)", moves.Move.is_idle: "(self)",
            moves.Move.flips: "(self)", moves.Move.renaming: "(self)",
            boards.Board: "(sheet, *, limit=8)", boards.Board.set_limit: "(self, value)",
            boards.Board.apply: "(self, *deeds)", boards.Board.undo: "(self)", boards.Board.redo: "(self)",
            boards.Board.history: "(self)", boards.Board.names: "(self)", boards.Board.weave: "(self, name)",
            boards.Board.threads_of: "(self, name)", boards.Board.kept: "(self)", boards.Board.twin: "(self)",
            pages.sheet_text: "(sheet)", pages.read_sheet: "(text)", pages.page: "(board)",
            pages.read_page: "(text)", desk.Desk: "(board)", desk.Desk.say: "(self, line)",
            desk.Desk.__call__: "(self, line)", desk.Desk.log: "(self)",
        }
        for function, expected in signatures.items():
            self.assertEqual(str(inspect.signature(function)), expected)


class Form(unittest.TestCase):
    def test_the_folder_has_nothing_else(self):
        found = {path.name for path in PACKAGE.iterdir()} - {"__pycache__"}
        self.assertEqual(found, {path.name for path in files()})
        for name in found:
            self.assertRegex(name, r"\A([a-z][a-z0-9_]*|__init__)\.py\Z")

    def test_sizes_and_characters(self):
        for path in files():
            text = path.read_text(encoding="ascii")
            rows = text.split("\n")
            self.assertLessEqual(len(rows), 400, path.name)
            self.assertEqual([row for row in rows if len(row) > 120], [], path.name)
            self.assertRegex(text, r"\A[ -~\n]*\Z", path.name)
            for node in ast.walk(ast.parse(text)):
                if isinstance(node, ast.FunctionDef):
                    self.assertLessEqual(node.end_lineno - node.lineno, 39, node.name)

    def test_imports(self):
        for name, tree in trees():
            for node in ast.walk(tree):
                self.assertNotIsInstance(node, ast.Import, name)
                if isinstance(node, ast.ImportFrom):
                    self.assertIn(node, tree.body)
                    self.assertRegex(node.module, r"\Aflipthreads\.[a-z]+\Z")
                    self.assertEqual(node.level, 0)

    def test_names(self):
        for file, tree in trees():
            for name in bound_names(tree):
                self.assertTrue(re.match(r"[A-Za-z]\w*\Z", name) or name in SPECIAL, (file, name))
                self.assertNotIn(name, UNUSED, file)

    def test_barred_words(self):
        for path in files():
            text = path.read_text(encoding="ascii")
            self.assertEqual([word for word in re.findall(r"\w+", text) if word in BARRED_WORDS], [], path.name)
            self.assertEqual([part for part in BARRED_PARTS if part in text], [], path.name)

    def test_only_listed_builtins(self):
        for file, tree in trees():
            known = set(bound_names(tree)) | set(BUILTINS)
            for node in ast.walk(tree):
                if isinstance(node, ast.ImportFrom):
                    known |= {alias.name for alias in node.names}
            for node in ast.walk(tree):
                if isinstance(node, ast.Name):
                    self.assertIn(node.id, known, file)

    def test_no_barred_statements_and_no_generator_expressions(self):
        barred = (ast.Global, ast.AsyncFunctionDef, ast.GeneratorExp, ast.Div, ast.Await)
        for file, tree in trees():
            for node in ast.walk(tree):
                self.assertNotIsInstance(node, barred, file)
                if isinstance(node, ast.Constant):
                    self.assertNotIsInstance(node.value, (float, complex), file)
                    self.assertNotIn("\x25", str(node.value), file)

    def test_no_name_is_a_method_and_an_attribute(self):
        methods, attributes = set(), set()
        for _, tree in trees():
            for node in ast.walk(tree):
                if isinstance(node, ast.ClassDef):
                    methods |= {row.name for row in node.body if isinstance(row, ast.FunctionDef)}
                if isinstance(node, ast.Attribute) and isinstance(node.ctx, ast.Store):
                    attributes.add(node.attr)
        self.assertEqual(methods & attributes, set())

    def test_each_name_has_one_meaning_in_its_file(self):
        for file, tree in trees():
            top = list(top_names(tree))
            self.assertEqual(len(set(top)), len(top), file)
            taken = {node.name for node in tree.body if isinstance(node, ast.ClassDef)}
            taken |= {alias.name for node in tree.body if isinstance(node, ast.ImportFrom) for alias in node.names}
            nodes = list(ast.walk(tree))
            inner = {node.arg for node in nodes if isinstance(node, ast.arg)}
            inner |= {node.id for node in nodes if isinstance(node, ast.Name) and isinstance(node.ctx, ast.Store)}
            self.assertEqual(inner & taken, set(), file)
            self.assertEqual((inner | set(top)) & set(dir(builtins)), set(), file)

    def test_imports_name_the_file_that_defines_and_do_not_lead_round(self):
        found = {f"flipthreads.{file[:-3]}": tree for file, tree in trees()}
        needs = {}
        for module, tree in found.items():
            rows = [node for node in tree.body if isinstance(node, ast.ImportFrom)]
            needs[module] = {row.module for row in rows}
            for row in rows:
                imported = {alias.name for node in found[row.module].body if isinstance(node, ast.ImportFrom)
                            for alias in node.names}
                defined = set(top_names(found[row.module])) - imported
                self.assertLessEqual({alias.name for alias in row.names}, defined, module)
                self.assertEqual([alias.asname for alias in row.names if alias.asname], [], module)
        while needs:
            free = {module for module in needs if not needs[module] & set(needs)}
            self.assertTrue(free, needs)
            needs = {module: needs[module] for module in needs if module not in free}

    def test_methods_that_are_called(self):
        own = {row.name for row in own_methods()} | set(BUILTIN_METHODS)
        for file, tree in trees():
            for node in ast.walk(tree):
                if isinstance(node, ast.Call) and isinstance(node.func, ast.Attribute):
                    self.assertIn(node.func.attr, own, file)

    def test_operators_have_plain_parameters(self):
        for row in own_methods():
            if row.name in ("__add__", "__mul__", "__rmul__", "__eq__"):
                self.assertEqual(ast.unparse(row.args), "self, other")
            elif row.name in ("__bool__", "__repr__", "__len__"):
                self.assertEqual(ast.unparse(row.args), "self")
            if row.name.startswith("__") and row.name != "__init__":
                self.assertIsInstance(row.body[-1], ast.Return)
                self.assertEqual(row.decorator_list, [])

    def test_no_other_function_has_the_name_of_a_generator(self):
        names = [node.name for _, tree in trees() for node in functions(tree)]
        self.assertIn("walk", generator_names())
        for name in generator_names():
            self.assertEqual(names.count(name), 1, name)
            self.assertNotIn(name, BUILTIN_METHODS)

    def test_generators_are_iterated_at_once(self):
        generators = set(generator_names())
        for file, tree in trees():
            iterated = [node.iter for node in ast.walk(tree) if isinstance(node, (ast.For, ast.comprehension))]
            iterated += [node.args[0] for node in ast.walk(tree) if isinstance(node, ast.Call) and node.args
                         and isinstance(node.func, ast.Name) and node.func.id in ("list", "tuple")]
            calls = [node for node in iterated if isinstance(node, ast.Call)]
            called = [node.func for node in calls if isinstance(node.func, ast.Name) and node.func.id in generators]
            for node in ast.walk(tree):
                if isinstance(node, ast.Name) and node.id in generators:
                    self.assertIn(node, called, (file, node.lineno))

    def test_only_own_errors_are_caught_and_raised(self):
        own = {name for name, value in vars(errors).items() if inspect.isclass(value)}
        for file, tree in trees():
            for node in ast.walk(tree):
                if isinstance(node, ast.ExceptHandler):
                    caught = node.type.elts if isinstance(node.type, ast.Tuple) else [node.type]
                    self.assertLessEqual({name.id for name in caught}, own, file)
                elif isinstance(node, ast.Raise):
                    self.assertIn(node.exc.func.id, own, file)

    def test_finally_is_plain(self):
        for file, tree in trees():
            for node in ast.walk(tree):
                for row in node.finalbody if isinstance(node, ast.Try) else []:
                    self.assertIsInstance(row, ast.Assign, file)
                    self.assertIsInstance(row.value, ast.Constant, file)

    def test_stars_stand_over_names_and_attributes(self):
        for file, tree in trees():
            for node in ast.walk(tree):
                if isinstance(node, ast.Starred):
                    self.assertIsInstance(node.value, (ast.Name, ast.Attribute), file)

    def test_properties_and_operators_change_nothing(self):
        changing = ("append", "clear", "extend", "insert", "pop", "remove", "reverse", "setdefault", "update")
        plain = ("__init__", "__call__")
        for row in own_methods():
            kinds = [ast.unparse(kind) for kind in row.decorator_list]
            if kinds == ["property"] or row.name.startswith("__") and row.name not in plain:
                for node in ast.walk(row):
                    self.assertNotIsInstance(node, (ast.Assign, ast.AugAssign, ast.Delete, ast.NamedExpr), row.name)
                    self.assertNotIn(getattr(node, "attr", ""), changing, row.name)

    def test_no_sort_and_plain_use_of_is(self):
        for file, tree in trees():
            for node in ast.walk(tree):
                self.assertNotEqual(getattr(node, "attr", None), "sort", file)
                if isinstance(node, ast.Compare) and any(isinstance(op, (ast.Is, ast.IsNot)) for op in node.ops):
                    beside = {getattr(side, "value", "no constant") for side in node.comparators}
                    self.assertLessEqual(beside, {None, True, False}, file)


if __name__ == "__main__":
    unittest.main()
