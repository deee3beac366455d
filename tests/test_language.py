"""Holds the package's files to those rules of the language that can be read off their text and tree."""

import ast
import builtins
import re
import unittest
from pathlib import Path

PACKAGE = Path(__file__).resolve().parent.parent / "halvecut"
OWN_NAMES = set(
    "len range enumerate zip min max sum abs sorted reversed int str bool list tuple dict set frozenset isinstance ord"
    " repr any all divmod Exception ValueError TypeError KeyError IndexError LookupError ZeroDivisionError"
    " ArithmeticError OverflowError RuntimeError NotImplementedError StopIteration".split()
)
OWN_METHODS = set(
    "append clear copy count endswith extend find get index insert isalnum isalpha isdigit islower isspace isupper"
    " items join keys ljust lower lstrip partition pop remove replace reverse rfind rjust rpartition rsplit rstrip"
    " setdefault split splitlines startswith strip update upper values zfill bit_length".split()
)
BARRED_WORDS = (
    "type typing typing_extensions enum Enum IntEnum StrEnum Flag IntFlag Generic Protocol ABC ABCMeta namedtuple"
    " NamedTuple TypedDict TYPE_CHECKING abstractmethod"
).split()
BARRED_NODES = (
    ast.With, ast.Match, ast.Delete, ast.Global, ast.Nonlocal, ast.Assert, ast.Yield, ast.YieldFrom, ast.Await,
    ast.AsyncFunctionDef, ast.AsyncFor, ast.AsyncWith, ast.SetComp, ast.DictComp, ast.GeneratorExp, ast.NamedExpr,
    ast.Starred, ast.Div, ast.Import, ast.AnnAssign,
)
BARRED_VALUES = set(
    "items keys values pop update append clear extend insert remove reverse setdefault sort args encode format".split()
)
FREE_VALUES = set("count index title find get join lower upper split strip copy add".split())
DUNDERS = {"__init__", "__eq__", "__repr__", "__str__", "__len__"}


def trees():
    return {path.stem: ast.parse(path.read_text(encoding="utf-8")) for path in sorted(PACKAGE.glob("*.py"))}


def places_and_nodes():
    found = []
    for name, tree in trees().items():
        for node in ast.walk(tree):
            found.append((f"{name}.py, row {getattr(node, 'lineno', 0)}", node))
    return found


def functions(tree):
    return [node for node in ast.walk(tree) if isinstance(node, ast.FunctionDef)]


def imports(tree):
    return [node for node in ast.walk(tree) if isinstance(node, ast.ImportFrom)]


def top_names(tree):
    found = []
    for node in tree.body:
        if isinstance(node, (ast.FunctionDef, ast.ClassDef)):
            found.append(node.name)
        elif isinstance(node, ast.Assign):
            found.append(node.targets[0].id)
    return found


def stored_names(tree):
    names = [node.id for node in ast.walk(tree) if isinstance(node, ast.Name) and isinstance(node.ctx, ast.Store)]
    return names + [node.arg for node in ast.walk(tree) if isinstance(node, ast.arg)]


class TextTest(unittest.TestCase):
    def test_folder_holds_plain_files_alone(self):
        for path in PACKAGE.iterdir():
            if path.name != "__pycache__":
                self.assertRegex(path.name, r"^([a-z][a-z0-9_]*|__init__|__main__)\.py$")

    def test_rows_and_signs(self):
        for path in PACKAGE.glob("*.py"):
            text = path.read_bytes().decode("ascii")
            with self.subTest(file=path.name):
                self.assertLessEqual(len(text.split("\n")) - 1, 400)
                self.assertLessEqual(max(len(row) for row in text.split("\n")), 120)
                self.assertRegex(text, r"\A[ -~\n]*\Z")

    def test_barred_words(self):
        barred = re.compile(r"\b(" + "|".join(BARRED_WORDS) + r")\b|dataclass|overload|contextmanager")
        for path in PACKAGE.glob("*.py"):
            with self.subTest(file=path.name):
                self.assertIsNone(barred.search(path.read_text(encoding="utf-8")))


class TreeTest(unittest.TestCase):
    def test_statements_and_values(self):
        for where, node in places_and_nodes():
            self.assertNotIsInstance(node, BARRED_NODES, where)
            if isinstance(node, ast.Assign):
                self.assertEqual(len(node.targets), 1, where)
                self.assertNotIsInstance(node.targets[0], (ast.Tuple, ast.List), where)
            if isinstance(node, (ast.For, ast.While)):
                self.assertEqual(node.orelse, [], where)
            if isinstance(node, ast.Try):
                self.assertEqual(node.finalbody, [], where)
            if isinstance(node, ast.Constant):
                self.assertNotIsInstance(node.value, (float, bytes, complex), where)
            if isinstance(node, ast.ListComp):
                self.assertEqual(len(node.generators), 1, where)
                self.assertLessEqual(len(node.generators[0].ifs), 1, where)
            if isinstance(node, ast.Compare) and any(isinstance(sign, (ast.Is, ast.IsNot)) for sign in node.ops):
                self.assertTrue(all(isinstance(side, ast.Constant) for side in node.comparators), where)

    def test_functions(self):
        for tree in trees().values():
            for node in functions(tree):
                with self.subTest(function=node.name):
                    self.assertLessEqual(node.end_lineno - node.lineno + 1, 40)
                    self.assertEqual(node.decorator_list, [])
                    self.assertIsNone(node.args.vararg or node.args.kwarg)
                    self.assertEqual(node.args.kwonlyargs + node.args.posonlyargs, [])
                    self.assertTrue(node.name in DUNDERS or not node.name.startswith("_"))

    def test_classes(self):
        for where, node in places_and_nodes():
            if isinstance(node, ast.ClassDef):
                self.assertEqual(node.decorator_list + node.keywords, [], where)
                self.assertLessEqual(len(node.bases), 1, where)
                for part in node.body:
                    self.assertIsInstance(part, (ast.FunctionDef, ast.Pass), where)

    def test_names(self):
        for name, tree in trees().items():
            drawn = [alias.name for node in imports(tree) for alias in node.names]
            tops = top_names(tree)
            classes = [node.name for node in tree.body if isinstance(node, ast.ClassDef)]
            self.assertEqual(len(tops + drawn), len(set(tops + drawn)), name)
            for stored in stored_names(tree):
                with self.subTest(file=name, name=stored):
                    self.assertNotIn(stored, drawn + classes + dir(builtins))
                    self.assertFalse(stored.startswith("_"))
            known = OWN_NAMES | set(tops) | set(drawn) | set(stored_names(tree))
            known |= {node.name for node in functions(tree)}
            for node in ast.walk(tree):
                if isinstance(node, ast.Name) and isinstance(node.ctx, ast.Load):
                    with self.subTest(file=name, name=node.id):
                        self.assertIn(node.id, known)

    def test_methods(self):
        own = {node.name for tree in trees().values() for node in functions(tree)}
        for where, node in places_and_nodes():
            if isinstance(node, ast.Call) and isinstance(node.func, ast.Attribute):
                self.assertIn(node.func.attr, OWN_METHODS | own, where)


    def test_values_of_objects(self):
        methods, values = set(), set()
        for where, node in places_and_nodes():
            if isinstance(node, ast.ClassDef):
                names = [part.name for part in node.body if isinstance(part, ast.FunctionDef)]
                self.assertEqual(len(names), len(set(names)), where)
                methods |= set(names)
            if isinstance(node, ast.Attribute) and isinstance(node.ctx, ast.Store):
                self.assertIsInstance(node.value, ast.Name, where)
                values.add(node.attr)
        self.assertEqual(methods & values, set())
        own = {name for kind in (str, int, list, tuple, dict, set, bytes) for name in dir(kind)}
        self.assertEqual(values & (BARRED_VALUES | own - FREE_VALUES), set())
        self.assertEqual((methods - DUNDERS) & (own - OWN_METHODS - {"add", "discard"}), set())

    def test_handlers(self):
        for where, node in places_and_nodes():
            if isinstance(node, ast.Try):
                taken = [handler.type.id for handler in node.handlers]
                self.assertFalse({"Exception", "TypeError"} & set(taken), where)
                if {"ValueError", "LookupError"} & set(taken):
                    self.assertEqual(len(node.body), 1, where)
                    calls = [part for part in ast.walk(node.body[0]) if isinstance(part, ast.Call)]
                    self.assertEqual([call.func.id for call in calls], ["int"], where)

    def test_texts_within_the_files(self):
        for where, node in places_and_nodes():
            if isinstance(node, ast.Constant) and isinstance(node.value, str):
                self.assertNotIn("%", node.value, where)
            if isinstance(node, ast.FormattedValue):
                self.assertIsInstance(node.value, ast.Name, where)
                self.assertIsNone(node.format_spec, where)

    def test_lists_and_dicts_of_a_file_hold_tuples_at_most(self):
        for tree in trees().values():
            for node in tree.body:
                if isinstance(node, ast.Assign):
                    inner = [part for part in ast.walk(node.value) if isinstance(part, (ast.List, ast.Dict))]
                    self.assertLessEqual(len(inner), 1, node.lineno)
                    self.assertFalse(inner and inner[0] is not node.value, node.lineno)


class ImportsTest(unittest.TestCase):
    def test_drawn_from_the_file_that_defines_the_name(self):
        found = trees()
        for name, tree in found.items():
            for node in imports(tree):
                with self.subTest(file=name, line=node.lineno):
                    self.assertEqual(node.level, 0)
                    self.assertIn(node, tree.body)
                    package, _, module = node.module.partition(".")
                    self.assertEqual(package, "halvecut")
                    self.assertIn(module, found)
                    for alias in node.names:
                        self.assertIsNone(alias.asname)
                        self.assertIn(alias.name, top_names(found[module]))

    def test_no_two_files_draw_from_one_another(self):
        drawn = {name: {node.module.partition(".")[2] for node in imports(tree)} for name, tree in trees().items()}
        while drawn:
            free = [name for name in drawn if not drawn[name] & set(drawn)]
            self.assertTrue(free, drawn)
            for name in free:
                del drawn[name]

    def test_package_itself_binds_nothing(self):
        tree = trees()["__init__"]
        self.assertEqual(top_names(tree) + imports(tree), [])


if __name__ == "__main__":
    unittest.main()
