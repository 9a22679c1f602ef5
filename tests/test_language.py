"""Some rules of LANGUAGE.md that the files show plainly; it does not cover all of them."""

import ast
import builtins
import itertools
import re
import unittest
from pathlib import Path

ROOT = Path(__file__).resolve().parent.parent
PACKAGE = ROOT / "grainmeet"
FILES = sorted(PACKAGE.glob("*.py"))

ALLOWED_BUILTINS = set(
    "len range enumerate zip min max sum abs sorted reversed int str bool bytes list tuple dict set frozenset"
    " isinstance ord repr any all divmod iter next object super property staticmethod classmethod NotImplemented"
    " Exception ValueError TypeError KeyError IndexError LookupError ZeroDivisionError ArithmeticError OverflowError"
    " RuntimeError NotImplementedError AttributeError StopIteration".split()
)
BARRED_WORDS = re.compile(
    r"\b(type|typing|typing_extensions|enum|Enum|IntEnum|StrEnum|Flag|IntFlag|Generic|Protocol|ABC|ABCMeta"
    r"|namedtuple|NamedTuple|TypedDict|TYPE_CHECKING|abstractmethod)\b|dataclass|overload|contextmanager"
)
BARRED_NAMES = set(
    "register mro elements open input law version_info with_traceback add_note attrgetter breakpoint builtins compile"
    " copyright credits delattr dir eval exec exit gc getattr globals hasattr help id importlib license locals"
    " methodcaller os quit setattr super type vars sys".split()
)
BARRED_NODES = (
    ast.Global, ast.AsyncFunctionDef, ast.AsyncFor, ast.AsyncWith, ast.Await, ast.Import, ast.Div, ast.MatMult,
)
OWN_ERRORS = [node.name for node in ast.parse((PACKAGE / "errors.py").read_text()).body if hasattr(node, "bases")]
LAZY = ("zip", "enumerate", "reversed", "range", "iter")
LIST_TAKERS = ("sum", "min", "max", "sorted", "any", "all")


class Language(unittest.TestCase):
    def each_tree(self):
        for path in FILES:
            yield path.name, ast.parse(path.read_text(encoding="utf-8"))

    def each_node(self):
        for name, tree in self.each_tree():
            for node in ast.walk(tree):
                yield f"{name}:{getattr(node, 'lineno', 0)}", node

    def test_files(self):
        self.assertTrue((PACKAGE / "__init__.py").exists())
        others = [path.name for path in PACKAGE.iterdir() if path not in FILES and path.name != "__pycache__"]
        self.assertEqual(others, [])
        for path in FILES:
            self.assertRegex(path.name, r"\A[a-z0-9_]+\.py\Z")

    def test_lines_and_characters(self):
        for path in FILES:
            text = path.read_bytes().decode("ascii")
            self.assertLessEqual(text.count("\n"), 399, path.name)
            self.assertEqual([sign for sign in text if sign != "\n" and not " " <= sign <= "~"], [], path.name)
            self.assertLessEqual(max(len(line) for line in text.split("\n")), 120, path.name)
            self.assertIsNone(BARRED_WORDS.search(text), path.name)

    def test_functions_are_short(self):
        for place, node in self.each_node():
            if isinstance(node, ast.FunctionDef):
                self.assertLessEqual(node.end_lineno - node.lineno + 1, 40, place)

    def test_imports(self):
        for place, node in self.each_node():
            if isinstance(node, ast.ImportFrom):
                self.assertEqual(node.level, 0, place)
                self.assertRegex(node.module, r"\Agrainmeet\.[a-z]+\Z", place)
                self.assertNotIn("*", [alias.name for alias in node.names], place)

    def test_statements(self):
        for place, node in self.each_node():
            self.assertNotIsInstance(node, BARRED_NODES, place)
            if isinstance(node, ast.Constant):
                self.assertNotIsInstance(node.value, float, place)
                self.assertNotIn("%", node.value if isinstance(node.value, str) else "", place)

    def test_powers_have_literal_exponents(self):
        for place, node in self.each_node():
            if isinstance(node, ast.BinOp) and isinstance(node.op, ast.Pow):
                self.assertIsInstance(node.right, ast.Constant, place)
                self.assertIn(node.right.value, range(65), place)

    def test_names(self):
        for place, node in self.each_node():
            if isinstance(node, ast.Name):
                self.assertFalse(node.id.startswith("_"), place)
                if hasattr(builtins, node.id):
                    self.assertIn(node.id, ALLOWED_BUILTINS, place)
                    self.assertIsInstance(node.ctx, ast.Load, place)
            elif isinstance(node, ast.arg):
                self.assertFalse(node.arg.startswith("_") or hasattr(builtins, node.arg), place)
            elif isinstance(node, ast.Attribute):
                self.assertFalse(node.attr.startswith("_") and node.attr != "__init__", place)

    def test_barred_names(self):
        for place, node in self.each_node():
            for field in ("id", "arg", "name", "attr"):
                self.assertNotIn(getattr(node, field, None), BARRED_NAMES, place)

    def test_is_stands_beside_none_only(self):
        for place, node in self.each_node():
            if isinstance(node, ast.Compare) and any(isinstance(sign, (ast.Is, ast.IsNot)) for sign in node.ops):
                self.assertEqual([getattr(one, "value", 0) for one in node.comparators], [None], place)

    def test_lazy_calls_are_iterated_on_the_spot(self):
        for place, node in self.each_node():
            if isinstance(node, (ast.Assign, ast.Return)) and isinstance(node.value, ast.Call):
                self.assertNotIn(getattr(node.value.func, "id", ""), LAZY, place)
                self.assertNotIn(getattr(node.value.func, "attr", ""), ("items", "keys", "values"), place)

    def test_lists_instead_of_generator_expressions(self):
        for place, node in self.each_node():
            if isinstance(node, ast.Call) and getattr(node.func, "id", "") in LIST_TAKERS:
                self.assertFalse(any(isinstance(one, ast.GeneratorExp) for one in node.args), place)

    def test_stars_in_calls(self):
        for place, node in self.each_node():
            if isinstance(node, ast.Call):
                for one in node.args:
                    if isinstance(one, ast.Starred):
                        self.assertIsInstance(one.value, ast.Name, place)

    def test_local_names_are_no_imports_or_classes(self):
        for name, tree in self.each_tree():
            taken = {alias.name for node in tree.body if isinstance(node, ast.ImportFrom) for alias in node.names}
            taken |= {node.name for node in tree.body if isinstance(node, ast.ClassDef)}
            for node in ast.walk(tree):
                place = f"{name}:{getattr(node, 'lineno', 0)}"
                if isinstance(node, ast.Name) and isinstance(node.ctx, ast.Store):
                    self.assertNotIn(node.id, taken, place)
                elif isinstance(node, ast.arg):
                    self.assertNotIn(node.arg, taken, place)

    def test_one_binding_at_module_level(self):
        for name, tree in self.each_tree():
            bound = []
            for node in tree.body:
                if isinstance(node, ast.ImportFrom):
                    bound.extend(alias.name for alias in node.names)
                elif isinstance(node, (ast.FunctionDef, ast.ClassDef)):
                    bound.append(node.name)
                elif isinstance(node, ast.Assign):
                    bound.extend(target.id for target in node.targets)
                else:
                    self.assertIsInstance(node, ast.Expr, name)
            self.assertEqual(sorted(set(bound)), sorted(bound), name)

    def test_imports_name_the_defining_file_and_make_no_circle(self):
        trees = {f"grainmeet.{name.removesuffix('.py')}": tree for name, tree in self.each_tree()}
        after = {}
        for name, tree in trees.items():
            imports = [node for node in tree.body if isinstance(node, ast.ImportFrom)]
            after[name] = {node.module for node in imports}
            for node in imports:
                defined = {getattr(one, "name", "") for one in trees[node.module].body}
                defined |= {one.targets[0].id for one in trees[node.module].body if isinstance(one, ast.Assign)}
                for alias in node.names:
                    self.assertIn(alias.name, defined, name)
                    self.assertIsNone(alias.asname, name)
        while after:
            free = [name for name, needed in after.items() if not needed & set(after)]
            self.assertTrue(free, f"a circle among {sorted(after)}")
            after = {name: needed for name, needed in after.items() if name not in free}

    def test_methods_attributes_properties_and_generators_have_names_of_their_own(self):
        plain, static, properties, stored, settable, functions, generators = set(), set(), set(), set(), set(), [], []
        for place, node in self.each_node():
            if isinstance(node, ast.Attribute) and isinstance(node.ctx, ast.Store):
                stored.add(node.attr)
            if isinstance(node, ast.FunctionDef):
                functions.append(node.name)
                if any(isinstance(one, (ast.Yield, ast.YieldFrom)) for one in ast.walk(node)):
                    generators.append(node.name)
            if isinstance(node, ast.ClassDef):
                for one in node.body:
                    if isinstance(one, ast.FunctionDef):
                        marks = [getattr(mark, "id", getattr(mark, "attr", "")) for mark in one.decorator_list]
                        kind = properties if {"property", "setter"} & set(marks) else static if marks else plain
                        kind.add(one.name)
                        if "setter" in marks:
                            settable.add(one.name)
        stored -= settable
        for one, other in itertools.combinations((plain, static, properties, stored), 2):
            self.assertEqual(one & other, set())
        builtin = {name for kind in (str, int, list, dict, set, bytes, tuple) for name in dir(kind)}
        self.assertEqual((static | properties | stored) & builtin, set())
        for name in generators:
            self.assertEqual(functions.count(name), 1, name)

    def test_caught_errors_are_own_ones(self):
        for place, node in self.each_node():
            if isinstance(node, ast.ExceptHandler):
                caught = node.type.elts if isinstance(node.type, ast.Tuple) else [node.type]
                for one in caught:
                    self.assertIn(one.id, OWN_ERRORS, place)


if __name__ == "__main__":
    unittest.main()
