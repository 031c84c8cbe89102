"""The package's form: those of LANGUAGE.md's rules that are plainly seen in a file's tree."""

import ast
import builtins
import pathlib
import re
import unittest

PACKAGE = pathlib.Path(__file__).resolve().parent.parent / "lanepacks"
FILES = sorted(path for path in PACKAGE.rglob("*.py"))

OWN_NAMES = set(
    "len range enumerate zip min max sum abs sorted reversed int str bool bytes list tuple dict set frozenset "
    "isinstance ord repr any all divmod Exception ValueError TypeError KeyError IndexError LookupError "
    "ZeroDivisionError ArithmeticError OverflowError RuntimeError NotImplementedError AttributeError "
    "StopIteration".split()
)
DOUBLE = {"__init__", "__eq__", "__repr__", "__str__", "__len__", "__all__", "__version__"}
NO_WORDS = (
    "type typing typing_extensions enum Enum IntEnum StrEnum Flag IntFlag Generic Protocol ABC ABCMeta "
    "namedtuple NamedTuple TypedDict TYPE_CHECKING abstractmethod".split()
)
NO_NAMES = set(
    "register mro elements open input version_info with_traceback add_note attrgetter breakpoint builtins compile "
    "copyright credits delattr dir eval exec exit gc getattr globals hasattr help id importlib license locals "
    "methodcaller os quit setattr super sys vars format format_map chr".split()
)
NO_NODES = (
    ast.With, ast.Match, ast.Global, ast.Nonlocal, ast.Yield, ast.YieldFrom, ast.Await, ast.AsyncFor, ast.AsyncWith,
    ast.AsyncFunctionDef, ast.GeneratorExp, ast.NamedExpr, ast.Import, ast.Div, ast.MatMult, ast.TryStar,
)


METHODS = set(
    "append clear copy count endswith extend find get index insert isalnum isalpha isdigit islower isspace isupper items "
    "join keys ljust lower lstrip partition pop remove replace reverse rfind rjust rpartition rsplit rstrip setdefault "
    "split splitlines startswith strip update upper values zfill bit_length".split()
)
CHANGES = {"append", "clear", "extend", "insert", "pop", "remove", "reverse", "setdefault", "update", "sort", "add", "discard"}
WALKED = {"zip", "enumerate", "reversed", "range"}
WALKERS = {"list", "tuple", "dict", "sorted", "sum", "any", "all", "enumerate", "zip", "bytes", "min", "max"}
KEYWORDS = {"sorted": {"key", "reverse"}, "min": {"key", "default"}, "max": {"key", "default"}, "sum": {"start"},
            "enumerate": {"start"}, "zip": {"strict"}}


def trees():
    for path in FILES:
        yield path, ast.parse(path.read_text(encoding="ascii"))


def nodes(kind):
    for path, tree in trees():
        for node in ast.walk(tree):
            if isinstance(node, kind):
                yield f"{path.name}:{getattr(node, 'lineno', 0)}", node


def names_of(node):
    if isinstance(node, ast.Name):
        return [node.id]
    if isinstance(node, ast.Attribute):
        return [node.attr]
    if isinstance(node, (ast.FunctionDef, ast.ClassDef)):
        return [node.name]
    if isinstance(node, (ast.arg, ast.keyword)):
        return [node.arg]
    if isinstance(node, ast.alias):
        return [node.asname or node.name]
    if isinstance(node, ast.ExceptHandler) and node.name:
        return [node.name]
    return []


def top_list(tree):
    """The names that a file binds at its top, but those it draws in."""
    for row in tree.body:
        if isinstance(row, (ast.FunctionDef, ast.ClassDef)):
            yield row.name
        if isinstance(row, ast.Assign):
            yield from [target.id for target in row.targets]


def top_names(tree):
    return set(top_list(tree))


class Files(unittest.TestCase):
    def test_the_package_holds_plain_files_alone(self):
        self.assertTrue((PACKAGE / "__init__.py").is_file())
        for path in PACKAGE.rglob("*"):
            if "__pycache__" in path.parts:
                continue
            self.assertRegex(path.name, r"^([a-z][a-z0-9_]*|__init__|__main__)\.py$")

    def test_sizes_and_signs(self):
        for path in FILES:
            text = path.read_text(encoding="ascii")
            self.assertRegex(text, r"\A[\n -~]*\Z", path.name)
            rows = text.split("\n")
            self.assertLessEqual(len(rows), 401, path.name)
            self.assertLessEqual(max(map(len, rows)), 120, path.name)
        for where, node in nodes(ast.FunctionDef):
            self.assertLessEqual(node.end_lineno - node.lineno + 1, 40, where)

    def test_words_that_stand_nowhere(self):
        for path in FILES:
            text = path.read_text(encoding="ascii")
            for word in NO_WORDS:
                self.assertIsNone(re.search(rf"\b{word}\b", text), f"{path.name}: {word}")
            for part in ("dataclass", "overload", "contextmanager"):
                self.assertNotIn(part, text, path.name)


class Code(unittest.TestCase):
    def test_nodes_that_stand_nowhere(self):
        for where, node in nodes(NO_NODES):
            self.fail(f"{where}: {node}")
        for where, node in nodes(ast.Constant):
            self.assertNotIsInstance(node.value, (float, complex), where)
        for where, node in nodes((ast.For, ast.While)):
            self.assertEqual(node.orelse, [], where)

    def test_stars_stand_only_in_what_is_given(self):
        for where, node in nodes(ast.Starred):
            self.assertIsInstance(node.ctx, ast.Store, where)
        for where, node in nodes(ast.Call):
            self.assertNotIn(None, [keyword.arg for keyword in node.keywords], where)

    def test_imports(self):
        for where, node in nodes(ast.ImportFrom):
            self.assertEqual(node.level, 0, where)
            self.assertRegex(node.module, r"^lanepacks\.[a-z]", where)
            self.assertNotIn("*", [alias.name for alias in node.names], where)

    def test_names(self):
        for where, node in nodes(ast.AST):
            for name in names_of(node):
                self.assertTrue(name in DOUBLE or re.fullmatch("[A-Za-z][A-Za-z0-9_]*", name), f"{where}: {name}")
                self.assertNotIn(name, NO_NAMES, where)

    def test_pythons_own_names(self):
        own = set(dir(builtins))
        for where, node in nodes(ast.Name):
            if node.id in own:
                self.assertIn(node.id, OWN_NAMES, where)
                self.assertIsInstance(node.ctx, ast.Load, where)
        for where, node in nodes((ast.arg, ast.FunctionDef, ast.ClassDef)):
            self.assertNotIn(getattr(node, "arg", getattr(node, "name", "")), own, where)

    def test_defs_and_classes(self):
        for where, node in nodes((ast.FunctionDef, ast.ClassDef)):
            self.assertEqual(node.decorator_list, [], where)
        for where, node in nodes(ast.FunctionDef):
            self.assertIsNone(node.args.vararg, where)
            self.assertIsNone(node.args.kwarg, where)
            self.assertEqual(node.args.posonlyargs, [], where)
        for where, node in nodes(ast.ClassDef):
            self.assertLessEqual(len(node.bases), 1, where)
            for row in node.body:
                self.assertIsInstance(row, (ast.FunctionDef, ast.Expr), where)

    def test_is_stands_beside_none_and_truths_alone(self):
        for where, node in nodes(ast.Compare):
            for sign, right in zip(node.ops, node.comparators):
                if isinstance(sign, (ast.Is, ast.IsNot)):
                    self.assertIn(getattr(right, "value", "else"), (None, True, False), where)

    def test_imports_are_drawn_from_where_the_name_is_defined_and_not_round_about(self):
        drawn = {}
        for path, tree in trees():
            rows = [node for node in tree.body if isinstance(node, ast.ImportFrom)]
            drawn[path.stem] = {row.module.split(".")[1] for row in rows}
            for row in rows:
                there = ast.parse((PACKAGE / f"{row.module.split('.')[1]}.py").read_text(encoding="ascii"))
                self.assertLessEqual({alias.name for alias in row.names}, top_names(there), f"{path.name}: {row.module}")
        for name in drawn:
            reached, grown = set(), drawn[name]
            while grown != reached:
                reached, grown = grown, grown.union(*[drawn[other] for other in grown])
            self.assertNotIn(name, reached)

    def test_each_name_is_bound_once_at_a_files_top(self):
        for path, tree in trees():
            names = [alias.name for row in tree.body if isinstance(row, ast.ImportFrom) for alias in row.names]
            names += list(top_list(tree))
            self.assertEqual(len(names), len(set(names)), path.name)

    def test_locals_are_called_unlike_imports_and_classes(self):
        for path, tree in trees():
            taken = {alias.name for row in tree.body if isinstance(row, ast.ImportFrom) for alias in row.names}
            taken |= {row.name for row in tree.body if isinstance(row, ast.ClassDef)}
            for node in ast.walk(tree):
                if isinstance(node, ast.arg):
                    self.assertNotIn(node.arg, taken, f"{path.name}:{node.lineno}")
                if isinstance(node, ast.Name) and isinstance(node.ctx, ast.Store):
                    self.assertNotIn(node.id, taken, f"{path.name}:{node.lineno}")

    def test_methods_and_values_of_objects(self):
        methods, values = set(), set()
        for path, tree in trees():
            for holder in ast.walk(tree):
                if isinstance(holder, ast.ClassDef):
                    methods |= {row.name for row in holder.body if isinstance(row, ast.FunctionDef)}
        for path, tree in trees():
            for node in ast.walk(tree):
                if isinstance(node, ast.Attribute) and isinstance(node.ctx, ast.Store):
                    values.add(node.attr)
        for path, tree in trees():
            calls = {id(node.func) for node in ast.walk(tree) if isinstance(node, ast.Call)}
            for node in ast.walk(tree):
                if isinstance(node, ast.Attribute) and isinstance(node.ctx, ast.Load):
                    where = f"{path.name}:{node.lineno}: {node.attr}"
                    if id(node) in calls:
                        self.assertIn(node.attr, METHODS | methods, where)
                    else:
                        self.assertIn(node.attr, values, where)
        self.assertEqual(methods & values, set())
        own = set()
        for kind in (str, int, list, dict, set, bytes, tuple):
            own |= set(dir(kind))
        self.assertLessEqual((methods | values) & own, DOUBLE)

    def test_what_is_walked_at_once(self):
        for path, tree in trees():
            good = set()
            for node in ast.walk(tree):
                if isinstance(node, (ast.For, ast.comprehension)):
                    good.add(id(node.iter))
                if isinstance(node, ast.Call) and isinstance(node.func, ast.Name) and node.func.id in WALKERS:
                    good |= {id(given) for given in (node.args if node.func.id == "zip" else node.args[:1])}
                if isinstance(node, ast.Call) and isinstance(node.func, ast.Name) and node.func.id == "reversed":
                    good |= {id(given) for given in node.args if isinstance(given, ast.Call) and given.func.id == "range"}
            for node in ast.walk(tree):
                if isinstance(node, ast.Call) and isinstance(node.func, ast.Name) and node.func.id in WALKED:
                    self.assertIn(id(node), good, f"{path.name}:{node.lineno}")
                if isinstance(node, ast.Call) and getattr(node.func, "attr", "") in ("items", "keys", "values"):
                    self.assertIn(id(node), good, f"{path.name}:{node.lineno}")

    def test_what_a_loop_walks_is_not_changed_in_it(self):
        for where, loop in nodes(ast.For):
            walked = {ast.unparse(node) for node in ast.walk(loop.iter) if isinstance(node, (ast.Name, ast.Attribute))}
            for row in loop.body:
                for node in ast.walk(row):
                    if isinstance(node, ast.Call) and getattr(node.func, "attr", "") in CHANGES:
                        self.assertNotIn(ast.unparse(node.func.value), walked, where)
                    if isinstance(node, (ast.Name, ast.Attribute, ast.Subscript)) and isinstance(node.ctx, ast.Store):
                        given = node.value if isinstance(node, ast.Subscript) else node
                        self.assertNotIn(ast.unparse(given), walked, where)

    def test_sets_are_only_counted_sorted_or_asked(self):
        for path, tree in trees():
            good = set()
            for node in ast.walk(tree):
                if isinstance(node, ast.Call) and isinstance(node.func, ast.Name) and node.func.id in ("len", "sorted"):
                    good |= {id(given) for given in node.args}
                if isinstance(node, ast.Compare):
                    good |= {id(given) for given in node.comparators}
            for node in ast.walk(tree):
                made = isinstance(node, ast.Call) and isinstance(node.func, ast.Name) and node.func.id in ("set", "frozenset")
                if made or isinstance(node, (ast.Set, ast.SetComp)):
                    self.assertIn(id(node), good, f"{path.name}:{node.lineno}")

    def test_keywords_at_pythons_own(self):
        for where, node in nodes(ast.Call):
            own = isinstance(node.func, ast.Name) and node.func.id in OWN_NAMES
            if own or (isinstance(node.func, ast.Attribute) and node.func.attr in METHODS):
                allowed = KEYWORDS.get(getattr(node.func, "id", ""), set())
                self.assertLessEqual({keyword.arg for keyword in node.keywords}, allowed, where)

    def test_errors(self):
        for where, node in nodes(ast.Raise):
            self.assertIsInstance(node.exc, ast.Call, where)
            self.assertIsInstance(node.exc.func, ast.Name, where)
        for where, node in nodes(ast.Try):
            self.fail(f"{where}: look at L19")

    def test_methods_with_two_underscores(self):
        ends = {"__len__": ("len(",), "__str__": ("' '.join(",), "__eq__": ("",), "__init__": ()}
        for where, node in nodes(ast.FunctionDef):
            if node.name.startswith("__"):
                self.assertIn(node.name, ends, where)
                for row in ast.walk(node):
                    if isinstance(row, ast.Return):
                        self.assertTrue(ast.unparse(row.value).startswith(ends[node.name]), where)
                    if node.name != "__init__":
                        self.assertNotIsInstance(row, (ast.Assign, ast.AugAssign, ast.Delete), where)

    def test_texts(self):
        for where, node in nodes(ast.Constant):
            if isinstance(node.value, str):
                self.assertNotIn("%", node.value, where)


if __name__ == "__main__":
    unittest.main()
