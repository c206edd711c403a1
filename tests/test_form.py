"""What can be seen of the language rules in the package's files: rules by their numbers."""

import ast
import builtins
import pathlib
import re
import unittest

PACKAGE = pathlib.Path(__file__).resolve().parent.parent / "signbench"
FILES = sorted(PACKAGE.glob("*.py"))
TREES = [(path.name, ast.parse(path.read_text("utf-8"))) for path in FILES]
OWN_NAMES = set((
    "len range enumerate zip min max sum abs sorted reversed int str bool bytes list tuple dict set isinstance "
    "ord repr any all divmod Exception ValueError TypeError KeyError IndexError LookupError ZeroDivisionError "
    "ArithmeticError OverflowError RuntimeError NotImplementedError AttributeError StopIteration"
).split())
OWN_METHODS = set((
    "append clear copy count endswith extend find get index insert isalnum isalpha isdigit islower isspace isupper "
    "items join keys ljust lower lstrip partition pop remove replace reverse rfind rjust rpartition rsplit rstrip "
    "setdefault split splitlines startswith strip update upper values zfill bit_length sort add discard "
    "title capitalize swapcase casefold center expandtabs removeprefix removesuffix rindex isascii isdecimal "
    "isnumeric istitle isidentifier isprintable translate maketrans"
).split())
BARRED_WORDS = (
    r"\b(type|typing|typing_extensions|enum|Enum|IntEnum|StrEnum|Flag|IntFlag|Generic|Protocol|ABC|ABCMeta|namedtuple"
    r"|NamedTuple|TypedDict|TYPE_CHECKING|abstractmethod)\b|dataclass|overload|contextmanager"
)
BARRED_NAMES = set(
    "register mro elements open input version_info with_traceback add_note args format format_map".split()
)
BARRED_NODES = (
    ast.GeneratorExp, ast.NamedExpr, ast.Yield, ast.YieldFrom, ast.With, ast.Match, ast.Global, ast.Nonlocal,
    ast.AsyncFunctionDef, ast.Await, ast.Div, ast.Import, ast.MatMult,
)


def nodes(kinds):
    for name, tree in TREES:
        for node in ast.walk(tree):
            if isinstance(node, kinds):
                yield f"{name}:{getattr(node, 'lineno', 0)}", node


def defined_names():
    return {node.name for where, node in nodes((ast.FunctionDef, ast.ClassDef))}


class Form(unittest.TestCase):
    def test_only_plain_files_lie_in_the_package(self):
        for path in PACKAGE.iterdir():
            if path.name != "__pycache__":
                self.assertRegex(path.name, r"^(__init__|[a-z][a-z0-9_]*)\.py$", "L1, L14")

    def test_signs_and_sizes(self):
        for path in FILES:
            text = path.read_text("utf-8")
            self.assertRegex(text, r"\A[ -~\n]*\Z", f"L14 {path.name}")
            self.assertIsNone(re.search(BARRED_WORDS, text), f"L17 {path.name}")
            self.assertLessEqual(len(text.splitlines()), 400, f"L10 {path.name}")
            self.assertLessEqual(max(map(len, text.splitlines()), default=0), 120, f"L10 {path.name}")
        for where, node in nodes(ast.FunctionDef):
            self.assertLessEqual(node.end_lineno - node.lineno + 1, 40, f"L10 {where}")

    def test_no_barred_statements(self):
        for where, node in nodes(BARRED_NODES):
            self.fail(f"L6, L7 {where}")
        for where, node in nodes((ast.FunctionDef, ast.ClassDef)):
            self.assertEqual(node.decorator_list, [], f"L4, L5 {where}")
        for where, node in nodes((ast.For, ast.While)):
            self.assertEqual(node.orelse, [], f"L6 {where}")
        for where, node in nodes(ast.arguments):
            self.assertFalse(node.vararg or node.kwarg or node.posonlyargs, f"L4 {where}")

    def test_imports(self):
        for where, node in nodes(ast.ImportFrom):
            self.assertRegex(node.module or "", r"^signbench\.[a-z_]+$", f"L2, L16 {where}")
            self.assertEqual(node.level, 0, f"L2 {where}")
            for name in node.names:
                self.assertNotEqual(name.name, "*", f"L2 {where}")

    def test_names(self):
        for where, node in nodes((ast.Name, ast.arg, ast.FunctionDef, ast.ClassDef, ast.Attribute)):
            name = [getattr(node, field) for field in ("id", "arg", "name", "attr") if hasattr(node, field)][0]
            self.assertRegex(name, r"^([A-Za-z][A-Za-z0-9_]*|__init__)$", f"L12 {where}")
            self.assertNotIn(name, BARRED_NAMES, f"L17 {where}")
            if isinstance(node, ast.Name) and hasattr(builtins, name):
                self.assertIn(name, OWN_NAMES, f"L8 {where}")
                self.assertIsInstance(node.ctx, ast.Load, f"L8 {where}")
            if isinstance(node, ast.arg):
                self.assertFalse(hasattr(builtins, name), f"L15 {where}")

    def test_names_of_a_file_are_bound_once(self):
        for path in FILES:
            top = ast.parse(path.read_text("utf-8")).body
            drawn = [name.asname or name.name for row in top if isinstance(row, ast.ImportFrom) for name in row.names]
            classes = [row.name for row in top if isinstance(row, ast.ClassDef)]
            defs = [row.name for row in top if isinstance(row, ast.FunctionDef)]
            given = [target.id for row in top if isinstance(row, ast.Assign) for target in row.targets]
            bound = drawn + classes + defs + given
            self.assertEqual(len(set(bound)), len(bound), f"L15 {path.name}")
            local = {node.arg for row in top for node in ast.walk(row) if isinstance(node, ast.arg)}
            for row in top:
                if isinstance(row, (ast.FunctionDef, ast.ClassDef)):
                    local |= {
                        node.id for node in ast.walk(row)
                        if isinstance(node, ast.Name) and isinstance(node.ctx, ast.Store)
                    }
            self.assertEqual(local & set(drawn + classes), set(), f"L15 {path.name}")
            self.assertEqual(local & set(defs), set(), f"a local bears the name of a def: {path.name}")

    def test_names_are_drawn_from_the_file_that_defines_them(self):
        for where, node in nodes(ast.ImportFrom):
            source = PACKAGE / (node.module.split(".")[-1] + ".py")
            found = set()
            for row in ast.parse(source.read_text("utf-8")).body:
                if isinstance(row, (ast.FunctionDef, ast.ClassDef)):
                    found.add(row.name)
                elif isinstance(row, ast.Assign):
                    found |= {target.id for target in row.targets}
            for name in node.names:
                self.assertIn(name.name, found, f"L16 {where}")
                self.assertIsNone(name.asname, f"L16 {where}")

    def test_no_two_files_draw_from_one_another(self):
        drawn = {path.stem: set() for path in FILES}
        for where, node in nodes(ast.ImportFrom):
            drawn[where.split(".")[0]].add(node.module.split(".")[-1])
        ready = set()
        while len(ready) < len(drawn):
            free = {name for name in drawn if name not in ready and drawn[name] <= ready}
            self.assertTrue(free, f"L16 {sorted(set(drawn) - ready)}")
            ready |= free

    def test_sets_are_sorted_or_counted_on_the_spot(self):
        right = set()
        for where, node in nodes(ast.Call):
            if isinstance(node.func, ast.Name) and node.func.id in ("sorted", "len"):
                right |= {(where, ast.dump(part)) for part in node.args}
        for where, node in nodes((ast.Set, ast.SetComp)):
            self.assertIn((where, ast.dump(node)), right, f"L24 {where}")
        for where, node in nodes(ast.Name):
            self.assertNotIn(node.id, ("set", "frozenset"), f"L24 {where}")

    def test_methods(self):
        known = OWN_METHODS | defined_names() | {"__init__"}
        for where, node in nodes(ast.Call):
            if isinstance(node.func, ast.Attribute):
                self.assertIn(node.func.attr, known, f"L25 {where}")

    def test_is_stands_beside_none_and_truths_alone(self):
        for where, node in nodes(ast.Compare):
            for sign, right in zip(node.ops, node.comparators):
                if isinstance(sign, (ast.Is, ast.IsNot)):
                    self.assertIsInstance(right, ast.Constant, f"L20 {where}")
                    self.assertIn(right.value, (None, True, False), f"L20 {where}")

    def test_written_values(self):
        for where, node in nodes(ast.Constant):
            self.assertNotIsInstance(node.value, (float, complex), f"L7 {where}")
            if isinstance(node.value, str):
                self.assertNotIn("%", node.value, f"L27 {where}")

    def test_errors_are_made_on_the_spot_and_taken_by_name(self):
        errors = {node.name for where, node in nodes(ast.ClassDef) if where.startswith("errors.py")}
        for where, node in nodes(ast.Raise):
            self.assertIsInstance(node.exc, ast.Call, f"L19 {where}")
            self.assertIn(getattr(node.exc.func, "id", None), errors, f"L19 {where}")
            self.assertTrue(node.cause is None or ast.unparse(node.cause) == "None", f"L19 {where}")
        for where, node in nodes(ast.ExceptHandler):
            self.assertIn(getattr(node.type, "id", None), errors, f"L19 {where}")
            self.assertIsNone(node.name, f"L19 {where}")
        for where, node in nodes(ast.Try):
            self.assertEqual(node.finalbody, [], f"L6 {where}")

    def test_keywords(self):
        for where, node in nodes(ast.Call):
            for keyword in node.keywords:
                self.assertEqual((ast.unparse(node.func), keyword.arg), ("enumerate", "start"), f"L22 {where}")

    def test_values_that_are_asked_are_given(self):
        called = {id(node.func) for where, node in nodes(ast.Call)}
        given = {node.attr for where, node in nodes(ast.Attribute) if isinstance(node.ctx, ast.Store)}
        for where, node in nodes(ast.Attribute):
            if id(node) not in called:
                self.assertIn(node.attr, given, f"L18 {where}")

    def test_values_and_methods_have_names_of_their_own(self):
        methods = {
            inner.name for where, node in nodes(ast.ClassDef) for inner in node.body
            if isinstance(inner, ast.FunctionDef)
        }
        values = {node.attr for where, node in nodes(ast.Attribute) if isinstance(node.ctx, ast.Store)}
        self.assertEqual(methods & values, set(), "L18")


if __name__ == "__main__":
    unittest.main()
