"""The part of Python that the package keeps to: those of its rules (L1 to L28) that are soon looked up."""

import ast
import builtins
import pathlib
import re
import unittest

PACKAGE = pathlib.Path(__file__).resolve().parent.parent / "slotbook"

ALLOWED = set(
    "len range enumerate zip min max sum abs sorted reversed int str bool list tuple dict set frozenset isinstance ord "
    "repr any all divmod Exception ValueError KeyError IndexError LookupError ZeroDivisionError ArithmeticError "
    "OverflowError RuntimeError NotImplementedError StopIteration TypeError AttributeError object".split()
)
BARRED_NODES = (
    ast.Import, ast.With, ast.Match, ast.Delete, ast.Global, ast.Nonlocal, ast.Assert, ast.Yield, ast.YieldFrom,
    ast.Await, ast.AsyncFunctionDef, ast.AsyncFor, ast.AsyncWith, ast.SetComp, ast.DictComp, ast.GeneratorExp,
    ast.NamedExpr, ast.Starred, ast.Div, ast.MatMult,
)
BARRED_WORDS = re.compile(
    r"\b(type|typing|typing_extensions|enum|Enum|IntEnum|StrEnum|Flag|IntFlag|Generic|Protocol|ABC|ABCMeta|namedtuple"
    r"|NamedTuple|TypedDict|TYPE_CHECKING|abstractmethod)\b|dataclass|overload|contextmanager"
)

# What Python's own values have as a method or a value may be the name of an object's value in these cases alone.
OF_PYTHONS_VALUES = {name for kind in (str, int, list, tuple, dict, set, bytes) for name in dir(kind)}
VALUE_NAMES = set("count index title find get join lower upper split strip copy add".split())
BARRED_NAMES = set("register mro elements open input version_info with_traceback add_note format format_map".split())


def texts():
    """The text of each file of the package, by its name."""
    return {path.name: path.read_text(encoding="utf-8") for path in sorted(PACKAGE.glob("*.py"))}


def nodes():
    """Each node of each file, with the file's name and the line."""
    for name, text in texts().items():
        for node in ast.walk(ast.parse(text)):
            yield f"{name}:{getattr(node, 'lineno', 0)}", node


class TestForm(unittest.TestCase):
    def test_only_python_files_lie_in_the_package(self):
        found = [path.name for path in PACKAGE.iterdir() if path.name != "__pycache__"]
        self.assertEqual(sorted(found), sorted(texts()))
        self.assertIn("__init__.py", found)

    def test_lines_and_signs(self):
        for name, text in texts().items():
            lines = text.split("\n")
            self.assertLessEqual(len(lines), 401, name)
            for number, line in enumerate(lines, start=1):
                self.assertTrue(len(line) <= 120 and all(" " <= sign <= "~" for sign in line), f"{name}:{number}")

    def test_barred_words(self):
        for name, text in texts().items():
            self.assertIsNone(BARRED_WORDS.search(text), name)

    def test_functions_are_short_and_plain(self):
        for where, node in nodes():
            if isinstance(node, (ast.FunctionDef, ast.ClassDef)):
                self.assertEqual(node.decorator_list, [], where)
            if isinstance(node, ast.FunctionDef):
                self.assertLessEqual(node.end_lineno - node.lineno + 1, 40, where)
                given = node.args
                self.assertFalse(given.vararg or given.kwarg or given.kwonlyargs or given.posonlyargs, where)

    def test_imports_are_the_packages_own(self):
        for where, node in nodes():
            if isinstance(node, ast.ImportFrom):
                self.assertTrue(node.level == 0 and node.module.startswith("slotbook."), where)
                self.assertTrue(all(alias.name != "*" for alias in node.names), where)

    def test_barred_statements_and_expressions(self):
        for where, node in nodes():
            self.assertNotIsInstance(node, BARRED_NODES, where)
            if isinstance(node, ast.Constant):
                self.assertNotIsInstance(node.value, (float, complex, bytes), where)
                self.assertFalse(isinstance(node.value, str) and "%" in node.value, where)
            if isinstance(node, (ast.For, ast.While)):
                self.assertEqual(node.orelse, [], where)
            if isinstance(node, ast.Try):
                self.assertEqual(node.finalbody, [], where)

    def test_names(self):
        for where, node in nodes():
            if isinstance(node, ast.Name):
                self.assertTrue(node.id in ALLOWED or not hasattr(builtins, node.id), f"{where} {node.id}")
                self.assertFalse(node.id.startswith("_") and node.id not in ("__all__", "__version__"), where)
            if isinstance(node, ast.arg):
                self.assertFalse(hasattr(builtins, node.arg) or node.arg.startswith("_"), where)

    def test_no_parameter_or_local_is_called_like_an_import_or_a_class(self):
        for name, text in texts().items():
            tree = ast.parse(text)
            taken = [node.name for node in tree.body if isinstance(node, ast.ClassDef)]
            taken += [alias.name for node in tree.body if isinstance(node, ast.ImportFrom) for alias in node.names]
            for node in ast.walk(tree):
                if isinstance(node, ast.arg):
                    self.assertNotIn(node.arg, taken, f"{name}:{node.lineno}")
                if isinstance(node, ast.Name) and isinstance(node.ctx, ast.Store):
                    self.assertNotIn(node.id, taken, f"{name}:{node.lineno}")

    def test_imports_come_from_the_file_that_defines_the_name(self):
        for where, node in nodes():
            if isinstance(node, ast.ImportFrom):
                tree = ast.parse(texts()[node.module.removeprefix("slotbook.") + ".py"])
                defined = [part.name for part in tree.body if isinstance(part, (ast.FunctionDef, ast.ClassDef))]
                defined += [part.targets[0].id for part in tree.body if isinstance(part, ast.Assign)]
                for alias in node.names:
                    self.assertIn(alias.name, defined, where)

    def test_classes_hold_methods_alone(self):
        for where, node in nodes():
            if isinstance(node, ast.ClassDef):
                self.assertTrue(len(node.bases) <= 1 and not node.keywords, where)
                for part in node.body:
                    remark = isinstance(part, ast.Expr) and isinstance(part.value, ast.Constant)
                    self.assertTrue(remark or isinstance(part, ast.FunctionDef), where)
                methods = [part.name for part in node.body if isinstance(part, ast.FunctionDef)]
                self.assertEqual(sorted(methods), sorted(set(methods)), where)
                self.assertEqual([name for name in methods if name.startswith("_") and name != "__init__"], [], where)

    def test_classes_are_called_or_stand_beside_a_refusal(self):
        classes = [node.name for where, node in nodes() if isinstance(node, ast.ClassDef)]
        for name, text in texts().items():
            tree, free = ast.parse(text), []
            for node in ast.walk(tree):
                if isinstance(node, ast.Call) and isinstance(node.func, ast.Name):
                    free.append(node.func)
                    if node.func.id == "isinstance":
                        free.extend(node.args[1:])
                elif isinstance(node, ast.ClassDef):
                    free.extend(node.bases)
                elif isinstance(node, ast.ExceptHandler):
                    free.append(node.type)
                elif isinstance(node, ast.Attribute) and node.attr == "__init__":
                    free.append(node.value)
            for node in ast.walk(tree):
                if isinstance(node, ast.Name) and node.id in classes:
                    self.assertTrue(any(node is other for other in free), f"{name}:{node.lineno}")

    def test_no_name_is_a_method_in_one_class_and_a_value_in_another(self):
        methods, values = set(), set()
        for where, node in nodes():
            if isinstance(node, ast.ClassDef):
                methods.update(part.name for part in node.body if isinstance(part, ast.FunctionDef))
            if isinstance(node, ast.Attribute) and isinstance(node.ctx, ast.Store):
                self.assertIsInstance(node.value, ast.Name, where)
                self.assertNotIn(node.attr, OF_PYTHONS_VALUES - VALUE_NAMES, where)
                values.add(node.attr)
        self.assertEqual(methods & values, set())
        self.assertEqual((methods | values) & BARRED_NAMES, set())

    def test_is_stands_beside_none_true_and_false_alone(self):
        for where, node in nodes():
            if isinstance(node, ast.Compare):
                for sign, side in zip(node.ops, node.comparators):
                    if isinstance(sign, (ast.Is, ast.IsNot)):
                        self.assertTrue(isinstance(side, ast.Constant) and side.value in (None, True, False), where)

    def test_assignments_have_one_target(self):
        for where, node in nodes():
            if isinstance(node, ast.Assign):
                self.assertEqual(len(node.targets), 1, where)

    def test_no_two_files_draw_from_one_another(self):
        drawn = {
            name.removesuffix(".py"): [
                node.module.removeprefix("slotbook.")
                for node in ast.walk(ast.parse(text)) if isinstance(node, ast.ImportFrom)
            ]
            for name, text in texts().items()
        }
        while drawn:
            free = [name for name in drawn if not any(other in drawn for other in drawn[name])]
            self.assertNotEqual(free, [], f"a ring among {sorted(drawn)}")
            drawn = {name: drawn[name] for name in drawn if name not in free}


if __name__ == "__main__":
    unittest.main()
