"""The package's form: those of LANGUAGE.md's rules that are plainly seen in a file's tree."""

import ast
import builtins
import pathlib
import re
import unittest

PACKAGE = pathlib.Path(__file__).resolve().parent.parent / "lanepacks"
FILES = sorted(path for path in PACKAGE.rglob("*.py"))

OWN_NAMES = set(
    "len range enumerate zip min max sum abs sorted reversed int str bool bytes list tuple dict set frozenset "
    "isinstance ord repr any all divmod Exception ValueError TypeError KeyError IndexError LookupError "
    "ZeroDivisionError ArithmeticError OverflowError RuntimeError NotImplementedError AttributeError "
    "StopIteration".split()
)
DOUBLE = {"__init__", "__eq__", "__repr__", "__str__", "__len__", "__all__", "__version__"}
NO_WORDS = (
    "type typing typing_extensions enum Enum IntEnum StrEnum Flag IntFlag Generic Protocol ABC ABCMeta "
    "namedtuple NamedTuple TypedDict TYPE_CHECKING abstractmethod".split()
)
NO_NAMES = set(
    "register mro elements open input version_info with_traceback add_note attrgetter breakpoint builtins compile "
    "copyright credits delattr dir eval exec exit gc getattr globals hasattr help id importlib license locals "
    "methodcaller os quit setattr super sys vars format format_map chr".split()
)
NO_NODES = (
    ast.With, ast.Match, ast.Global, ast.Nonlocal, ast.Yield, ast.YieldFrom, ast.Await, ast.AsyncFor, ast.AsyncWith,
    ast.AsyncFunctionDef, ast.GeneratorExp, ast.NamedExpr, ast.Import, ast.Div, ast.MatMult, ast.TryStar,
)


def trees():
    for path in FILES:
        yield path, ast.parse(path.read_text(encoding="ascii"))


def nodes(kind):
    for path, tree in trees():
        for node in ast.walk(tree):
            if isinstance(node, kind):
                yield f"{path.name}:{getattr(node, 'lineno', 0)}", node


def names_of(node):
    if isinstance(node, ast.Name):
        return [node.id]
    if isinstance(node, ast.Attribute):
        return [node.attr]
    if isinstance(node, (ast.FunctionDef, ast.ClassDef)):
        return [node.name]
    if isinstance(node, (ast.arg, ast.keyword)):
        return [node.arg]
    if isinstance(node, ast.alias):
        return [node.asname or node.name]
    if isinstance(node, ast.ExceptHandler) and node.name:
        return [node.name]
    return []


class Files(unittest.TestCase):
    def test_the_package_holds_plain_files_alone(self):
        self.assertTrue((PACKAGE / "__init__.py").is_file())
        for path in PACKAGE.rglob("*"):
            if "__pycache__" in path.parts:
                continue
            self.assertRegex(path.name, r"^([a-z][a-z0-9_]*|__init__|__main__)\.py$")

    def test_sizes_and_signs(self):
        for path in FILES:
            text = path.read_text(encoding="ascii")
            self.assertRegex(text, r"\A[\n -~]*\Z", path.name)
            rows = text.split("\n")
            self.assertLessEqual(len(rows), 401, path.name)
            self.assertLessEqual(max(map(len, rows)), 120, path.name)
        for where, node in nodes(ast.FunctionDef):
            self.assertLessEqual(node.end_lineno - node.lineno + 1, 40, where)

    def test_words_that_stand_nowhere(self):
        for path in FILES:
            text = path.read_text(encoding="ascii")
            for word in NO_WORDS:
                self.assertIsNone(re.search(rf"\b{word}\b", text), f"{path.name}: {word}")
            for part in ("dataclass", "overload", "contextmanager"):
                self.assertNotIn(part, text, path.name)


class Code(unittest.TestCase):
    def test_nodes_that_stand_nowhere(self):
        for where, node in nodes(NO_NODES):
            self.fail(f"{where}: {node}")
        for where, node in nodes(ast.Constant):
            self.assertNotIsInstance(node.value, (float, complex), where)
        for where, node in nodes((ast.For, ast.While)):
            self.assertEqual(node.orelse, [], where)

    def test_stars_stand_only_in_what_is_given(self):
        for where, node in nodes(ast.Starred):
            self.assertIsInstance(node.ctx, ast.Store, where)
        for where, node in nodes(ast.Call):
            self.assertNotIn(None, [keyword.arg for keyword in node.keywords], where)

    def test_imports(self):
        for where, node in nodes(ast.ImportFrom):
            self.assertEqual(node.level, 0, where)
            self.assertRegex(node.module, r"^lanepacks\.[a-z]", where)
            self.assertNotIn("*", [alias.name for alias in node.names], where)

    def test_names(self):
        for where, node in nodes(ast.AST):
            for name in names_of(node):
                self.assertTrue(name in DOUBLE or re.fullmatch("[A-Za-z][A-Za-z0-9_]*", name), f"{where}: {name}")
                self.assertNotIn(name, NO_NAMES, where)

    def test_pythons_own_names(self):
        own = set(dir(builtins))
        for where, node in nodes(ast.Name):
            if node.id in own:
                self.assertIn(node.id, OWN_NAMES, where)
                self.assertIsInstance(node.ctx, ast.Load, where)
        for where, node in nodes((ast.arg, ast.FunctionDef, ast.ClassDef)):
            self.assertNotIn(getattr(node, "arg", getattr(node, "name", "")), own, where)

    def test_defs_and_classes(self):
        for where, node in nodes((ast.FunctionDef, ast.ClassDef)):
            self.assertEqual(node.decorator_list, [], where)
        for where, node in nodes(ast.FunctionDef):
            self.assertIsNone(node.args.vararg, where)
            self.assertIsNone(node.args.kwarg, where)
            self.assertEqual(node.args.posonlyargs, [], where)
        for where, node in nodes(ast.ClassDef):
            self.assertLessEqual(len(node.bases), 1, where)
            for row in node.body:
                self.assertIsInstance(row, (ast.FunctionDef, ast.Expr), where)

    def test_is_stands_beside_none_and_truths_alone(self):
        for where, node in nodes(ast.Compare):
            for sign, right in zip(node.ops, node.comparators):
                if isinstance(sign, (ast.Is, ast.IsNot)):
                    self.assertIn(getattr(right, "value", "else"), (None, True, False), where)

    def test_texts(self):
        for where, node in nodes(ast.Constant):
            if isinstance(node.value, str):
                self.assertNotIn("%", node.value, where)


if __name__ == "__main__":
    unittest.main()
