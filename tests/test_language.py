"""The package keeps to its small part of Python, as far as a plain reading can see it."""

import ast
import builtins
import pathlib
import re
import unittest
import warnings

PACKAGE = pathlib.Path(__file__).resolve().parent.parent / "roomtally"

OWN_NAMES = set(
    "len range enumerate zip min max sum abs sorted reversed int str bool bytes list tuple dict set "
    "isinstance ord repr any all divmod Exception ValueError TypeError KeyError IndexError LookupError "
    "ZeroDivisionError ArithmeticError OverflowError RuntimeError NotImplementedError "
    "AttributeError StopIteration".split()
)
METHODS = set(
    "append clear copy count endswith extend find get index insert isalnum isalpha isdigit islower isspace "
    "isupper items join keys ljust lower lstrip partition pop remove replace reverse rfind rjust rpartition "
    "rsplit rstrip setdefault split splitlines startswith strip update upper values zfill bit_length sort "
    "title capitalize swapcase casefold center removeprefix removesuffix rindex isascii isdecimal isnumeric "
    "istitle isidentifier isprintable add discard __init__".split()
)
DOUBLE = {"__init__", "__eq__", "__repr__", "__str__", "__len__"}
BANNED_WORDS = re.compile(
    r"\b(type|typing|typing_extensions|enum|Enum|IntEnum|StrEnum|Flag|IntFlag|Generic|Protocol|ABC|ABCMeta"
    r"|namedtuple|NamedTuple|TypedDict|TYPE_CHECKING|abstractmethod)\b|dataclass|overload|contextmanager"
)
BANNED_KINDS = (
    ast.Import, ast.With, ast.Match, ast.Global, ast.Nonlocal, ast.Yield, ast.YieldFrom, ast.Await,
    ast.AsyncFunctionDef, ast.AsyncFor, ast.AsyncWith, ast.GeneratorExp, ast.NamedExpr, ast.Div, ast.MatMult,
)


def sources():
    return {path.name: path.read_text(encoding="utf-8") for path in sorted(PACKAGE.glob("*.py"))}


def nodes():
    """Each node of each file, with the file's name and the node's line."""
    for name, text in sources().items():
        for node in ast.walk(ast.parse(text)):
            yield f"{name}:{getattr(node, 'lineno', '-')}", node


class Language(unittest.TestCase):
    def test_nothing_else_lies_in_the_package(self):
        for path in PACKAGE.iterdir():
            if path.name != "__pycache__":
                self.assertRegex(path.name, r"^[a-z0-9_]+\.py$")
        self.assertIn("__init__.py", sources())

    def test_signs_and_sizes(self):
        for name, text in sources().items():
            rows = text.split("\n")
            self.assertLessEqual(len(rows), 400, name)
            for at, row in enumerate(rows, start=1):
                self.assertRegex(row, r"^[ -~]{0,120}$", f"{name}:{at}")
                self.assertIsNone(BANNED_WORDS.search(row), f"{name}:{at}")

    def test_python_reads_it_without_a_warning(self):
        for name, text in sources().items():
            with warnings.catch_warnings():
                warnings.simplefilter("error")
                compile(text, name, "exec")

    def test_kinds_of_rows_and_values(self):
        for where, node in nodes():
            self.assertNotIsInstance(node, BANNED_KINDS, where)
            self.assertFalse(isinstance(node, (ast.For, ast.While)) and node.orelse, where)
            self.assertFalse(getattr(node, "decorator_list", []), where)
            if isinstance(node, ast.Constant):
                self.assertNotIsInstance(node.value, (float, complex), where)
                self.assertNotIn("%", node.value if isinstance(node.value, str) else "", where)
            if isinstance(node, ast.BinOp) and isinstance(node.op, ast.Pow):
                self.assertIsInstance(node.right, ast.Constant, where)
            if isinstance(node, ast.Compare):
                for op, right in zip(node.ops, node.comparators):
                    if isinstance(op, (ast.Is, ast.IsNot)):
                        self.assertTrue(isinstance(right, ast.Constant) and right.value in (None, True, False), where)

    def test_functions_and_classes(self):
        for where, node in nodes():
            if isinstance(node, ast.FunctionDef):
                self.assertLessEqual(node.end_lineno - node.lineno + 1, 40, where)
                self.assertFalse(node.args.vararg or node.args.kwarg or node.args.posonlyargs, where)
                self.assertTrue(node.name in DOUBLE or not node.name.startswith("_"), where)
            if isinstance(node, ast.ClassDef):
                self.assertLessEqual(len(node.bases), 1, where)
                for row in node.body:
                    plain = isinstance(row, (ast.FunctionDef, ast.Pass))
                    self.assertTrue(plain or isinstance(row, ast.Expr) and isinstance(row.value, ast.Constant), where)

    def test_imports_draw_from_the_file_that_defines_the_name(self):
        for where, node in nodes():
            if isinstance(node, ast.ImportFrom) and node.module != "__future__":
                self.assertEqual(node.level, 0, where)
                package, file = node.module.split(".")
                self.assertEqual(package, PACKAGE.name, where)
                tops = ast.parse(sources()[file + ".py"]).body
                defined = {row.name for row in tops if isinstance(row, (ast.FunctionDef, ast.ClassDef))}
                defined |= {to.id for row in tops if isinstance(row, ast.Assign) for to in row.targets}
                self.assertLessEqual({drawn.name for drawn in node.names}, defined, where)

    def test_no_two_files_draw_from_one_another(self):
        drawn = {}
        for name, text in sources().items():
            rows = [node for node in ast.walk(ast.parse(text)) if isinstance(node, ast.ImportFrom)]
            drawn[name] = {node.module.split(".")[-1] + ".py" for node in rows if node.module != "__future__"}
        while drawn:
            free = [name for name in drawn if not drawn[name] & set(drawn)]
            self.assertTrue(free, drawn)
            for name in free:
                del drawn[name]

    def test_each_name_of_a_file_is_bound_once(self):
        for name, text in sources().items():
            tree = ast.parse(text)
            bound = [to.id for row in tree.body if isinstance(row, ast.Assign) for to in row.targets]
            bound += [row.name for row in tree.body if isinstance(row, (ast.FunctionDef, ast.ClassDef))]
            bound += [to.asname or to.name for row in tree.body if isinstance(row, ast.ImportFrom) for to in row.names]
            self.assertEqual(len(bound), len(set(bound)), name)
            for node in ast.walk(tree):
                if isinstance(node, ast.FunctionDef):
                    inner = {thing.arg for thing in ast.walk(node) if isinstance(thing, ast.arg)}
                    inner |= {thing.id for thing in ast.walk(node)
                              if isinstance(thing, ast.Name) and isinstance(thing.ctx, ast.Store)}
                    self.assertFalse(inner & set(bound), f"{name}:{node.lineno}")

    def test_names(self):
        for where, node in nodes():
            if isinstance(node, (ast.Name, ast.arg)):
                name = node.id if isinstance(node, ast.Name) else node.arg
                self.assertRegex(name, r"^[A-Za-z][A-Za-z0-9_]*$", where)
                if hasattr(builtins, name):
                    self.assertIn(name, OWN_NAMES, where)
                    self.assertIsInstance(getattr(node, "ctx", None), ast.Load, where)

    def test_methods_and_values_of_objects(self):
        known = set(METHODS)
        for where, node in nodes():
            if isinstance(node, ast.ClassDef):
                known |= {row.name for row in node.body if isinstance(row, ast.FunctionDef)}
            if isinstance(node, ast.Attribute) and isinstance(node.ctx, ast.Store):
                known.add(node.attr)
        for where, node in nodes():
            if isinstance(node, ast.Attribute):
                self.assertIn(node.attr, known, where)

    def test_no_name_is_a_method_here_and_a_value_there(self):
        methods, values = set(), set()
        for where, node in nodes():
            if isinstance(node, ast.ClassDef):
                names = [row.name for row in node.body if isinstance(row, ast.FunctionDef)]
                self.assertEqual(len(names), len(set(names)), where)
                methods |= set(names)
            if isinstance(node, ast.Attribute) and isinstance(node.ctx, ast.Store):
                values.add(node.attr)
        self.assertEqual(methods & values, set())
        for kind in (str, int, list, dict, set, bytes, tuple):
            self.assertEqual((methods - DOUBLE | values) & set(dir(kind)), set(), kind)

    def test_no_list_or_dict_of_a_top_holds_another_and_none_is_changed(self):
        for name, text in sources().items():
            tree = ast.parse(text)
            held = {}
            for row in tree.body:
                if isinstance(row, ast.Assign) and isinstance(row.value, (ast.List, ast.Dict)):
                    held[row.targets[0].id] = row.value
            for value in held.values():
                inner = [node for node in ast.walk(value) if isinstance(node, (ast.List, ast.Dict))]
                self.assertEqual(inner, [value], name)
            for node in ast.walk(tree):
                if isinstance(node, ast.Subscript) and isinstance(node.value, ast.Name) and node.value.id in held:
                    self.assertIsInstance(node.ctx, ast.Load, f"{name}:{node.lineno}")
                if isinstance(node, ast.Attribute) and isinstance(node.value, ast.Name) and node.value.id in held:
                    self.assertIn(node.attr, ("get", "items", "keys", "values"), f"{name}:{node.lineno}")


if __name__ == "__main__":
    unittest.main()
