"""The interface, and those rules of the language that can be seen in the code of each file."""

import ast
import builtins
import inspect
import re
import unittest
from importlib import import_module
from pathlib import Path

PACKAGE = Path(__file__).parent.parent / "allteams"
PATHS = sorted(PACKAGE.rglob("*.py"))

FUNCTIONS = {
    "kinds": {
        "choices": "(many, few)",
        "team_count": "(sizes, games)",
        "due_of": "(sizes, games, kind)",
        "class_of": "(sizes, person)",
        "check_setting": "(sizes, games)",
        "all_kinds": "(sizes, games)",
        "is_kind": "(sizes, games, value)",
        "team_kind": "(sizes, team)",
        "teams_of": "(sizes, kind)",
    },
    "looks": {
        "plays": "(plan)",
        "uneven": "(plan, classes)",
        "is_even": "(plan, classes)",
        "is_full": "(plan)",
        "meetings": "(plan, one, other)",
        "rests": "(plan, person)",
    },
    "shares": {"dealt": "(rows, bottom)", "is_dealt": "(rows, bottom, given)"},
    "taking": {"taken_out": "(table, index)", "steps": "(table)", "plan_of": "(table)"},
    "evens": {
        "even_plan": "(people, games, numbers)",
        "full_plan": "(people, team, *, times=1)",
        "fewest_rounds": "(people, team, *, times=1)",
    },
    "growth": {"grown": "(plan, people)", "keeps": "(plan, old)"},
    "pairs": {"finished": "(old, people, rounds)", "least_pairs": "(old, people)"},
    "barred": {
        "fitting_table": "(sizes, games, numbers, barred=())",
        "fitting_plan": "(sizes, games, numbers, barred=())",
        "is_crowded": "(sizes, games, numbers, barred, kinds)",
        "are_prices": "(sizes, games, numbers, costs, barred, cost, prices)",
        "cheapest_table": "(sizes, games, numbers, costs, barred=())",
    },
    "wishes": {"meeting_plan": "(wishes)"},
    "clashes": {
        "clash": "(wishes)",
        "clash_kinds": "(wishes)",
        "needless_wishes": "(wishes)",
        "range_of": "(wishes, at, kind)",
        "plan_with": "(wishes, at, kind, number)",
    },
}
METHODS = {
    ("tables", "Table"): {
        "__init__": "(self, sizes, games, rounds)",
        "__len__": "(self)",
        "__eq__": "(self, other)",
        "number": "(self, at, kind)",
        "teams": "(self, at, size=None)",
        "places": "(self, at, index)",
        "sums": "(self)",
        "fault": "(self)",
        "merged": "(self, one, other)",
        "moved": "(self, order)",
        "text": "(self)",
    },
    ("plans", "Plan"): {
        "__init__": "(self, people, games, rounds)",
        "__len__": "(self)",
        "__eq__": "(self, other)",
        "__add__": "(self, other)",
        "rounds_of": "(self, team)",
        "outline": "(self, classes)",
        "renamed": "(self, names)",
        "moved": "(self, order)",
        "text": "(self)",
    },
    ("wishes", "Wishes"): {
        "__init__": "(self, text)",
        "__len__": "(self)",
        "barred": "(self, which=None)",
        "costs": "(self)",
        "broken": "(self, plan)",
        "cost_of": "(self, plan)",
    },
    ("desk", "Desk"): {
        "__init__": "(self, text)",
        "__len__": "(self)",
        "add": "(self, line)",
        "drop": "(self, place)",
        "settle": "(self, at, kind, number)",
        "loosen": "(self, at, kind)",
        "undo": "(self)",
        "book": "(self)",
        "settled": "(self)",
        "possible": "(self)",
        "plan": "(self)",
        "range_of": "(self, at, kind)",
        "trial": "(self)",
        "tried": "(self, deed)",
    },
}
PROPERTIES = {
    ("tables", "Table"): ["sizes", "games", "rounds"],
    ("plans", "Plan"): ["people", "games", "rounds"],
    ("wishes", "Wishes"): ["names", "sizes", "games", "numbers", "lines"],
    ("desk", "Desk"): [],
}
CLASS_METHODS = {
    ("tables", "Table"): {"read": "(cls, text)"},
    ("plans", "Plan"): {"read": "(cls, text)"},
    ("wishes", "Wishes"): {},
    ("desk", "Desk"): {},
}

BUILTINS = """
    len range enumerate zip min max sum abs sorted reversed int str bool bytes list tuple dict set frozenset isinstance
    ord repr any all divmod iter next Exception ValueError TypeError KeyError IndexError LookupError ZeroDivisionError
    ArithmeticError OverflowError RuntimeError NotImplementedError AttributeError StopIteration NotImplemented
    property classmethod staticmethod super
""".split()
NO_WORDS = """
    type typing typing_extensions enum Enum IntEnum StrEnum Flag IntFlag Generic Protocol ABC ABCMeta namedtuple
    NamedTuple TypedDict TYPE_CHECKING abstractmethod
""".split()
NO_NAMES = """
    register mro elements open input law version_info with_traceback add_note attrgetter breakpoint builtins compile
    copyright credits delattr dir eval exec exit gc getattr globals hasattr help id importlib license locals
    methodcaller os quit setattr type vars sys
""".split()
NO_NODES = (
    ast.Global, ast.AsyncFunctionDef, ast.AsyncFor, ast.AsyncWith, ast.Await, ast.Import, ast.Div, ast.GeneratorExp,
    ast.NamedExpr,
)
BUILTIN_VALUES = [str, bytes, int, list, tuple, dict, set]


def defined(tree):
    """The names that are bound at module level."""
    for row in tree.body:
        if isinstance(row, (ast.FunctionDef, ast.ClassDef)):
            yield row.name
        elif isinstance(row, ast.Assign):
            yield from [target.id for target in row.targets]
        elif isinstance(row, ast.ImportFrom):
            yield from [name.asname or name.name for name in row.names]


def bound(tree):
    """The names that functions, classes, parameters, assignments and loops bind anywhere in a file."""
    for node in ast.walk(tree):
        if isinstance(node, (ast.FunctionDef, ast.ClassDef)):
            yield node.name
        elif isinstance(node, ast.arg):
            yield node.arg
        elif isinstance(node, ast.Name) and isinstance(node.ctx, ast.Store):
            yield node.id


def stored(trees):
    """The names of all attributes that are assigned."""
    nodes = [node for tree in trees for node in ast.walk(tree) if isinstance(node, ast.Attribute)]
    return {node.attr for node in nodes if isinstance(node.ctx, ast.Store)}


def methods_of(trees):
    """The methods of all classes, each with its name."""
    classes = [node for tree in trees for node in ast.walk(tree) if isinstance(node, ast.ClassDef)]
    return [(row.name, row) for found in classes for row in found.body if isinstance(row, ast.FunctionDef)]


def run_by_operators(trees):
    """What operators, properties, == and len run, also through what they call, with the names of the methods called."""
    known = {}
    for node in [node for tree in trees for node in ast.walk(tree)]:
        if isinstance(node, ast.FunctionDef):
            known.setdefault(node.name, []).append(node)
        if isinstance(node, ast.ClassDef):
            made = [row for row in node.body if isinstance(row, ast.FunctionDef) and row.name == "__init__"]
            known.setdefault(node.name, []).extend(made)
    waiting = [
        node for name, node in methods_of(trees)
        if re.fullmatch("__.*__", name) and name not in ("__init__", "__enter__", "__exit__", "__call__")
        or any(getattr(told, "id", None) == "property" for told in node.decorator_list)
    ]
    found, called = [], set()
    while waiting:
        node = waiting.pop()
        if node not in found:
            found.append(node)
            for call in [part for part in ast.walk(node) if isinstance(part, ast.Call)]:
                if isinstance(call.func, ast.Attribute):
                    called.add(call.func.attr)
                waiting += known.get(getattr(call.func, "id", getattr(call.func, "attr", None)), [])
    return {node.name for node in found}, called


class Interface(unittest.TestCase):
    def test_functions(self):
        for module, functions in FUNCTIONS.items():
            for name, told in functions.items():
                function = getattr(import_module(f"allteams.{module}"), name)
                self.assertEqual(str(inspect.signature(function)), told, name)
                self.assertEqual(function.__module__, f"allteams.{module}")

    def test_methods_are_defined_in_their_class(self):
        for (module, name), methods in METHODS.items():
            found = getattr(import_module(f"allteams.{module}"), name)
            self.assertEqual(found.__module__, f"allteams.{module}")
            for method, told in methods.items():
                self.assertEqual(str(inspect.signature(vars(found)[method])), told, method)
            for method in PROPERTIES[module, name]:
                self.assertIsInstance(vars(found)[method], property)
                self.assertIsNone(vars(found)[method].fset)
            for method, told in CLASS_METHODS[module, name].items():
                self.assertIsInstance(vars(found)[method], classmethod)
                self.assertEqual(str(inspect.signature(vars(found)[method].__func__)), told, method)


class Language(unittest.TestCase):
    def setUp(self):
        self.trees = {path: ast.parse(path.read_text()) for path in PATHS}

    def test_files_lines_and_signs(self):
        self.assertIn(PACKAGE / "__init__.py", PATHS)
        for path in PATHS:
            text = path.read_text()
            self.assertRegex(path.stem, "^[a-z][a-z0-9]*$|^__init__$")
            self.assertTrue(all(" " <= sign <= "~" or sign == "\n" for sign in text), path)
            self.assertLessEqual(len(text.splitlines()), 399, path)
            self.assertLessEqual(max(len(line) for line in text.splitlines()), 120, path)
            self.assertEqual([word for word in NO_WORDS if re.search(rf"\b{word}\b", text)], [], path)
            self.assertIsNone(re.search("dataclass|overload|contextmanager", text), path)

    def test_functions_have_at_most_40_lines(self):
        for path, tree in self.trees.items():
            for node in ast.walk(tree):
                if isinstance(node, ast.FunctionDef):
                    self.assertLessEqual(node.end_lineno - node.lineno + 1, 40, f"{path.name}: {node.name}")

    def test_imports_name_the_file_that_defines_the_name(self):
        for path, tree in self.trees.items():
            for node in ast.walk(tree):
                if isinstance(node, ast.ImportFrom):
                    self.assertEqual((node.level, node.module.split(".")[0]), (0, "allteams"), path)
                    there = self.trees[PACKAGE / (node.module.split(".")[1] + ".py")]
                    names = [row.name for row in there.body if isinstance(row, (ast.FunctionDef, ast.ClassDef))]
                    names += [row.targets[0].id for row in there.body if isinstance(row, ast.Assign)]
                    for name in node.names:
                        self.assertIsNone(name.asname)
                        self.assertIn(name.name, names, path)

    def test_no_two_files_import_from_each_other(self):
        waiting = {
            path.stem: {row.module.split(".")[1] for row in tree.body if isinstance(row, ast.ImportFrom)}
            for path, tree in self.trees.items()
        }
        while waiting:
            ready = {name for name, imported in waiting.items() if not imported & set(waiting)}
            self.assertTrue(ready, waiting)
            waiting = {name: imported for name, imported in waiting.items() if name not in ready}

    def test_lists_and_dicts_do_not_stand_at_module_level(self):
        for path, tree in self.trees.items():
            for row in tree.body:
                if isinstance(row, ast.Assign):
                    self.assertIsInstance(row.value, (ast.Constant, ast.Tuple), f"{path.name}: look what L15 allows")

    def test_all_imports_are_used(self):
        for path, tree in self.trees.items():
            imported = [name.name for row in tree.body if isinstance(row, ast.ImportFrom) for name in row.names]
            used = [node.id for node in ast.walk(tree) if isinstance(node, ast.Name)]
            self.assertEqual([name for name in imported if name not in used], [], path)

    def test_module_level(self):
        for path, tree in self.trees.items():
            names = list(defined(tree))
            self.assertEqual(len(names), len(set(names)), path)
            for row in tree.body:
                told = isinstance(row, ast.Expr) and isinstance(row.value, ast.Constant)
                self.assertTrue(told or isinstance(row, (ast.FunctionDef, ast.ClassDef, ast.Assign, ast.ImportFrom)))

    def test_names(self):
        for path, tree in self.trees.items():
            top = list(defined(tree))
            names = list(bound(tree))
            imported = [name.name for row in tree.body if isinstance(row, ast.ImportFrom) for name in row.names]
            classes = [row.name for row in tree.body if isinstance(row, ast.ClassDef)]
            told = [name for name in names if name.startswith("_") and not re.fullmatch("__[a-z]+__", name)]
            self.assertEqual(told, [], path)
            self.assertEqual([name for name in names if name in NO_NAMES], [], path)
            told = [name for name in names if hasattr(builtins, name) and not name.startswith("_")]
            self.assertEqual(told, [], path)
            self.assertEqual([name for name in names if name in imported], [], path)
            self.assertEqual(sorted(name for name in names if name in classes), sorted(classes), path)
            for node in ast.walk(tree):
                if isinstance(node, ast.Name) and isinstance(node.ctx, ast.Load):
                    self.assertIn(node.id, top + names + BUILTINS, path)

    def test_nodes(self):
        for path, tree in self.trees.items():
            for node in ast.walk(tree):
                self.assertNotIsInstance(node, NO_NODES, path)
                if isinstance(node, ast.Constant):
                    self.assertNotIsInstance(node.value, float)
                    if isinstance(node.value, str):
                        self.assertNotIn("%", node.value)
                if isinstance(node, (ast.Set, ast.SetComp)):
                    self.fail(f"{path.name}: look whether L24 allows this set, line {node.lineno}")
                if isinstance(node, ast.Compare) and any(isinstance(sign, (ast.Is, ast.IsNot)) for sign in node.ops):
                    self.assertIn(getattr(node.comparators[0], "value", 0), (None, True, False))

    def test_what_is_iterated_at_once_is_not_stored(self):
        for path, tree in self.trees.items():
            for node in ast.walk(tree):
                if isinstance(node, (ast.Assign, ast.Return)) and isinstance(node.value, ast.Call):
                    called = getattr(node.value.func, "id", getattr(node.value.func, "attr", None))
                    self.assertNotIn(called, ["range", "zip", "enumerate", "reversed", "items", "keys", "values"], path)

    def test_not_implemented_is_only_returned(self):
        for path, tree in self.trees.items():
            told = [node for node in ast.walk(tree) if isinstance(node, ast.Name) and node.id == "NotImplemented"]
            returned = [node.value for node in ast.walk(tree) if isinstance(node, ast.Return)]
            self.assertEqual([node for node in told if node not in returned], [], path)

    def test_no_name_is_a_method_here_and_an_attribute_there(self):
        attributes = stored(self.trees.values())
        methods = {name for name, _ in methods_of(self.trees.values())}
        self.assertEqual(methods & attributes, set())
        told = {name for name in methods if not name.startswith("__")}
        self.assertEqual({name for name in told for kind in BUILTIN_VALUES if hasattr(kind, name)} - {"add"}, set())
        allowed = {"count", "index", "title", "find", "get", "join", "lower", "upper", "split", "strip", "copy", "add"}
        self.assertEqual({name for name in attributes for kind in BUILTIN_VALUES if hasattr(kind, name)} - allowed, set())

    def test_what_operators_and_properties_run_calls_no_name_of_an_attribute(self):
        names, called = run_by_operators(self.trees.values())
        self.assertLessEqual({"__add__", "__eq__", "__len__", "rounds", "check_times", "parts_of"}, names)
        self.assertIn("get", called)
        self.assertEqual(called & stored(self.trees.values()), set())

    def test_calls_of_operators_are_looked_at(self):
        code = """
class Box:
    def __init__(self, rows):
        self.count = told(rows)
    def __len__(self):
        return len(self.many)
    @property
    def many(self):
        return [far(self)]
    def free(self):
        return self.rows.pop()
def told(rows):
    return rows.index(1)
def far(box):
    return Box([]).near()
"""
        names, called = run_by_operators([ast.parse(code)])
        self.assertEqual((names, called), ({"__len__", "many", "far", "__init__", "told"}, {"near", "index"}))
        self.assertEqual(stored([ast.parse(code)]), {"count"})


if __name__ == "__main__":
    unittest.main()
