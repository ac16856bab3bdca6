"""The rules of the language that the package is written in, as far as they can be seen at once."""

import ast
import builtins
import pathlib
import re
import unittest

PACKAGE = pathlib.Path(__file__).resolve().parent.parent / "besthours"
FILES = sorted(PACKAGE.rglob("*.py"))
TREES = {file: ast.parse(file.read_text()) for file in FILES}

BUILTINS = set(
    "len range enumerate zip min max sum abs sorted reversed int str bool bytes list tuple dict set frozenset "
    "isinstance ord repr any all divmod pow ValueError TypeError KeyError IndexError ZeroDivisionError "
    "RuntimeError NotImplementedError".split()
)
METHODS = set(
    "append clear copy count endswith extend find get index insert isalnum isalpha isdigit islower isspace isupper "
    "items join keys ljust lower lstrip partition pop remove replace reverse rfind rjust rpartition rsplit rstrip "
    "setdefault split splitlines startswith strip update upper values zfill bit_length add discard".split()
)
BARRED = (
    "typing", "typing_extensions", "enum", "Enum", "IntEnum", "StrEnum", "Flag", "IntFlag", "Generic", "Protocol",
    "ABC", "ABCMeta", "namedtuple", "NamedTuple", "TypedDict", "TYPE_CHECKING", "abstractmethod", "type",
)
STATEMENTS = (
    ast.Global, ast.AsyncFunctionDef, ast.Await, ast.AsyncFor, ast.AsyncWith, ast.Import, ast.Try, ast.With,
    ast.Match, ast.NamedExpr, ast.Nonlocal,
)
LIBRARY = {"heapq", "math", "itertools", "collections"}


def nodes_of(kind):
    """(FILE, NODE) of all nodes of a kind."""
    return [(file, node) for file, tree in TREES.items() for node in ast.walk(tree) if isinstance(node, kind)]


def bound_names(node):
    """The names that a function binds: its parameters and what it assigns."""
    names = {one.arg for one in ast.walk(node.args) if isinstance(one, ast.arg)}
    names |= {one.id for one in ast.walk(node) if isinstance(one, ast.Name) and isinstance(one.ctx, ast.Store)}
    return names


class Language(unittest.TestCase):
    def test_files(self):
        for path in PACKAGE.rglob("*"):
            if "__pycache__" not in path.parts:
                self.assertRegex(path.name, r"^[a-z0-9_]+(\.py)?$", "L1")
        self.assertLessEqual(len(FILES), 100, "L14")

    def test_size_and_characters(self):
        for file in FILES:
            text = file.read_text()
            self.assertRegex(text, r"\A[ -~\n]*\Z", f"L14 {file}")
            lines = text.split("\n")
            self.assertLessEqual(len(lines), 400, f"L10 {file}")
            self.assertLessEqual(max(len(line) for line in lines), 120, f"L10 {file}")
        for file, node in nodes_of(ast.FunctionDef):
            self.assertLessEqual(node.end_lineno - node.lineno + 1, 40, f"L10 {file} {node.name}")
            self.assertEqual(node.decorator_list, [], f"L4 {file} {node.name}")

    def test_module_level(self):
        allowed = (ast.Expr, ast.ImportFrom, ast.FunctionDef, ast.ClassDef, ast.Assign)
        for file, tree in TREES.items():
            names = []
            for at, node in enumerate(tree.body):
                self.assertIsInstance(node, allowed, f"L3 {file}:{node.lineno}")
                if isinstance(node, ast.Expr):
                    self.assertEqual(at, 0, f"L3 {file}:{node.lineno}")
                elif isinstance(node, ast.Assign):
                    self.assertEqual([type(target) for target in node.targets], [ast.Name], f"L3 {file}:{node.lineno}")
                    names.append(node.targets[0].id)
                elif isinstance(node, ast.ImportFrom):
                    names += [alias.name for alias in node.names]
                else:
                    names.append(node.name)
            self.assertEqual(len(names), len(set(names)), f"L15 {file}")

    def test_imports(self):
        edges = {}
        for file, node in nodes_of(ast.ImportFrom):
            self.assertEqual(node.level, 0, f"L2 {file}")
            if node.module in LIBRARY:
                continue
            package, name = node.module.split(".")
            self.assertEqual(package, "besthours", f"L2 {file}")
            other = PACKAGE / f"{name}.py"
            edges.setdefault(file, set()).add(other)
            defined = set()
            for one in TREES[other].body:
                if isinstance(one, (ast.FunctionDef, ast.ClassDef)):
                    defined.add(one.name)
                elif isinstance(one, ast.Assign):
                    defined.add(one.targets[0].id)
            for alias in node.names:
                self.assertIsNone(alias.asname, f"L2 {file}")
                self.assertIn(alias.name, defined, f"L16 {file}")
        done = set()
        while True:
            more = {file for file in FILES if file not in done and edges.get(file, set()) <= done}
            if not more:
                break
            done |= more
        self.assertEqual(done, set(FILES), "L16: files import from each other")

    def test_names(self):
        for file, tree in TREES.items():
            outer = {alias.name for node in tree.body if isinstance(node, ast.ImportFrom) for alias in node.names}
            outer |= {node.name for node in tree.body if isinstance(node, ast.ClassDef)}
            for node in ast.walk(tree):
                if isinstance(node, ast.FunctionDef):
                    self.assertFalse(bound_names(node) & outer, f"L15 {file} {node.name}")
                    self.assertFalse(bound_names(node) & set(dir(builtins)), f"L15 {file} {node.name}")
                    self.assertNotIn(node.name, dir(builtins), f"L15 {file}")
                    self.assertTrue(not node.name.startswith("__") or node.name == "__init__", f"L5 {file}")
                elif isinstance(node, ast.Name) and hasattr(builtins, node.id):
                    self.assertIn(node.id, BUILTINS, f"L8 {file}:{node.lineno}")

    def test_words(self):
        for file in FILES:
            code = "\n".join(line.split("#")[0] for line in re.sub(r'""".*?"""', "", file.read_text(), flags=re.S).split("\n"))
            for word in BARRED:
                self.assertNotRegex(code, rf"\b{word}\b", f"L17 {file}")
            for word in ("dataclass", "overload", "contextmanager", "_wall"):
                self.assertNotIn(word, code, f"L17 {file}")

    def test_statements(self):
        for file, node in nodes_of(STATEMENTS):
            self.fail(f"L6 {file}:{node.lineno}")
        for file, node in nodes_of((ast.BinOp, ast.AugAssign)):
            self.assertNotIsInstance(node.op, (ast.Div, ast.MatMult), f"L7 {file}:{node.lineno}")
        for file, node in nodes_of(ast.Constant):
            self.assertNotIsInstance(node.value, (float, complex), f"L7 {file}:{node.lineno}")
            if isinstance(node.value, str):
                self.assertNotIn("%", node.value, f"L27 {file}:{node.lineno}")
        for file, node in nodes_of(ast.Compare):
            for operator, side in zip(node.ops, node.comparators):
                if isinstance(operator, (ast.Is, ast.IsNot)):
                    self.assertIn(getattr(side, "value", 0), (None, True, False), f"L20 {file}:{node.lineno}")

    def test_methods(self):
        own = {node.name for _, one in nodes_of(ast.ClassDef) for node in one.body if isinstance(node, ast.FunctionDef)}
        for file, node in nodes_of(ast.Call):
            if isinstance(node.func, ast.Attribute):
                self.assertIn(node.func.attr, METHODS | own, f"L25 {file}:{node.lineno}")
                self.assertEqual(node.keywords, [], f"L25 {file}:{node.lineno}")

    def test_classes(self):
        of_values = {name for kind in (int, str, list, dict, set, bytes) for name in dir(kind)}
        stored = set()
        for file, one in nodes_of(ast.ClassDef):
            methods = [node.name for node in one.body if isinstance(node, ast.FunctionDef)]
            self.assertEqual(len(methods), len(set(methods)), f"L18 {file} {one.name}")
            assigned = {
                node.attr for node in ast.walk(one)
                if isinstance(node, ast.Attribute) and isinstance(node.ctx, ast.Store)
            }
            self.assertFalse(set(methods) & assigned, f"L18 {file} {one.name}")
            self.assertFalse((assigned | set(methods)) - {"__init__"} & of_values - {"__init__"}, f"L26 {file} {one.name}")
            stored |= assigned | set(methods)
        for file, node in nodes_of(ast.Attribute):
            if isinstance(node.ctx, ast.Load):
                self.assertIn(node.attr, stored | METHODS, f"L18 {file}:{node.lineno}")

    def test_loops_leave_alone_what_they_go_over(self):
        changing = {"append", "pop", "extend", "insert", "remove", "clear", "update", "setdefault", "sort", "reverse"}
        for file, node in nodes_of(ast.For):
            over = {ast.unparse(one) for one in ast.walk(node.iter) if isinstance(one, (ast.Name, ast.Attribute))}
            for one in ast.walk(ast.Module(node.body, [])):
                changed = None
                if isinstance(one, ast.Call) and isinstance(one.func, ast.Attribute) and one.func.attr in changing:
                    changed = one.func.value
                elif isinstance(one, ast.Subscript) and isinstance(one.ctx, (ast.Store, ast.Del)):
                    changed = one.value
                if changed is not None:
                    self.assertNotIn(ast.unparse(changed), over, f"L23 {file}:{one.lineno}")

    def test_sets_and_ranges(self):
        for file, node in nodes_of((ast.Set, ast.SetComp)):
            self.fail(f"L24 {file}:{node.lineno}: look whether this may stand")
        for file, node in nodes_of((ast.For, ast.comprehension)):
            called = getattr(getattr(node.iter, "func", None), "id", "")
            self.assertNotIn(called, ("set", "frozenset"), f"L24 {file}")


if __name__ == "__main__":
    unittest.main()
