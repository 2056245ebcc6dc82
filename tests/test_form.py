"""Holds the package's files against those rules of LANGUAGE.md that can be read off a file."""

import ast
import builtins
import pathlib
import re
import unittest

PACKAGE = pathlib.Path(__file__).resolve().parent.parent / "roundwords"
FILES = sorted(PACKAGE.glob("*.py"))
OWN_NAMES = set("""len range enumerate zip min max sum abs sorted reversed int str bool bytes list tuple dict set
    frozenset isinstance ord repr any all divmod Exception ValueError TypeError KeyError IndexError LookupError
    ZeroDivisionError ArithmeticError OverflowError RuntimeError NotImplementedError AttributeError
    StopIteration""".split())
METHODS = set("""append clear copy count endswith extend find get index insert isalnum isalpha isdigit islower isspace
    isupper items join keys ljust lower lstrip partition pop remove replace reverse rfind rjust rpartition rsplit
    rstrip setdefault split splitlines startswith strip update upper values zfill bit_length isascii isdecimal add
    discard sort""".split())
WORDS_OUT = re.compile(r"\b(type|typing|typing_extensions|enum|Enum|IntEnum|StrEnum|Flag|IntFlag|Generic|Protocol|ABC"
                       r"|ABCMeta|namedtuple|NamedTuple|TypedDict|TYPE_CHECKING|abstractmethod)\b"
                       r"|dataclass|overload|contextmanager")
NODES_OUT = (ast.With, ast.Match, ast.Global, ast.Nonlocal, ast.Yield, ast.YieldFrom, ast.Await, ast.AsyncFunctionDef,
             ast.GeneratorExp, ast.NamedExpr, ast.Div, ast.MatMult, ast.Import)


def trees():
    return [(path, ast.parse(path.read_text())) for path in FILES]


def nodes():
    return [(path, node) for path, tree in trees() for node in ast.walk(tree)]


class Form(unittest.TestCase):
    def test_files_and_signs(self):
        self.assertIn("__init__.py", [path.name for path in FILES])
        for path in PACKAGE.iterdir():
            if path.name != "__pycache__":
                self.assertRegex(path.name, r"^[a-z_][a-z0-9_]*\.py$")
        for path in FILES:
            text = path.read_text()
            self.assertRegex(text, r"\A[ -~\n]*\Z", path)
            self.assertNotRegex(text, WORDS_OUT, path)
            self.assertLessEqual(len(text.splitlines()), 400, path)
            self.assertLessEqual(max(len(line) for line in text.splitlines()), 120, path)

    def test_what_stands_nowhere(self):
        for path, node in nodes():
            where = (path.name, getattr(node, "lineno", 0))
            self.assertNotIsInstance(node, NODES_OUT, where)
            if isinstance(node, ast.Constant):
                self.assertNotIsInstance(node.value, (float, complex), where)
                if isinstance(node.value, str):
                    self.assertNotIn("%", node.value, where)
            if isinstance(node, (ast.For, ast.While)):
                self.assertEqual(node.orelse, [], where)
            if isinstance(node, (ast.FunctionDef, ast.ClassDef)):
                self.assertEqual(node.decorator_list, [], where)
            if isinstance(node, ast.BinOp) and isinstance(node.op, ast.Pow):
                self.assertIsInstance(node.right, ast.Constant, where)
            if isinstance(node, ast.Compare):
                self.check_compare(node, where)

    def check_compare(self, node, where):
        for op, right in zip(node.ops, node.comparators):
            if isinstance(op, (ast.Is, ast.IsNot)):
                self.assertTrue(isinstance(right, ast.Constant) and right.value in (None, True, False), where)

    def test_functions_are_short_and_plain(self):
        for path, node in nodes():
            if isinstance(node, ast.FunctionDef):
                where = (path.name, node.name)
                self.assertLessEqual(node.end_lineno - node.lineno + 1, 40, where)
                self.assertIsNone(node.args.vararg, where)
                self.assertIsNone(node.args.kwarg, where)
                self.assertEqual(node.args.posonlyargs, [], where)

    def test_the_top_of_a_file(self):
        for path, tree in trees():
            names = []
            for node in tree.body:
                where = (path.name, node.lineno)
                self.assertIsInstance(node, (ast.Expr, ast.ImportFrom, ast.FunctionDef, ast.ClassDef, ast.Assign), where)
                if isinstance(node, ast.Expr):
                    self.assertIs(node, tree.body[0], where)
                if isinstance(node, ast.ImportFrom):
                    self.assertEqual(node.level, 0, where)
                    self.assertRegex(node.module, r"^roundwords\.[a-z]+$")
                    names += [alias.asname or alias.name for alias in node.names]
                if isinstance(node, (ast.FunctionDef, ast.ClassDef)):
                    names.append(node.name)
                if isinstance(node, ast.Assign):
                    names += [target.id for target in node.targets]
            self.assertEqual(len(names), len(set(names)), path)

    def test_names(self):
        for path, tree in trees():
            top = {alias.name for node in tree.body if isinstance(node, ast.ImportFrom) for alias in node.names}
            top |= {node.name for node in tree.body if isinstance(node, (ast.ClassDef, ast.FunctionDef))}
            for node in ast.walk(tree):
                given = []
                if isinstance(node, ast.Name) and isinstance(node.ctx, ast.Store):
                    given = [node.id]
                elif isinstance(node, ast.arg):
                    given = [node.arg]
                for name in given:
                    self.assertRegex(name, r"^[A-Za-z][A-Za-z0-9_]*$", path)
                    self.assertNotIn(name, top, path)
                    self.assertFalse(hasattr(builtins, name), (path.name, name))
                if isinstance(node, ast.Name) and isinstance(node.ctx, ast.Load) and hasattr(builtins, node.id):
                    self.assertIn(node.id, OWN_NAMES, path)

    def test_methods(self):
        own = {item.name for _, node in nodes() if isinstance(node, ast.ClassDef) for item in node.body
               if isinstance(item, ast.FunctionDef)}
        for path, node in nodes():
            if isinstance(node, ast.Call) and isinstance(node.func, ast.Attribute):
                self.assertIn(node.func.attr, METHODS | own, (path.name, node.lineno))

    def test_values_of_objects(self):
        methods = {item.name for _, node in nodes() if isinstance(node, ast.ClassDef) for item in node.body
                   if isinstance(item, ast.FunctionDef)}
        given, asked = set(), set()
        for tree in [tree for _, tree in trees()]:
            called = {id(node.func) for node in ast.walk(tree) if isinstance(node, ast.Call)}
            for node in ast.walk(tree):
                if isinstance(node, ast.Attribute) and isinstance(node.ctx, ast.Store):
                    given.add(node.attr)
                elif isinstance(node, ast.Attribute) and id(node) not in called:
                    asked.add(node.attr)
        self.assertLessEqual(asked, given)
        self.assertFalse(given & (methods | METHODS))

    def test_imports_come_from_the_file_that_defines_them_and_never_round(self):
        draws = {}
        defined = {}
        for path, tree in trees():
            defined[path.stem] = {node.name for node in tree.body if isinstance(node, (ast.FunctionDef, ast.ClassDef))}
            defined[path.stem] |= {target.id for node in tree.body if isinstance(node, ast.Assign)
                                   for target in node.targets}
            draws[path.stem] = [(node.module.split(".")[1], alias.name) for node in tree.body
                                if isinstance(node, ast.ImportFrom) for alias in node.names]
        for stem, rows in draws.items():
            for module, name in rows:
                self.assertIn(name, defined[module], (stem, module))
        left = {stem: {module for module, _ in rows} for stem, rows in draws.items()}
        while left:
            ready = [stem for stem, needs in left.items() if not needs & set(left)]
            self.assertTrue(ready, f"these draw from one another: {sorted(left)}")
            for stem in ready:
                del left[stem]

    def test_names_drawn_are_used(self):
        for path, tree in trees():
            used = {node.id for node in ast.walk(tree) if isinstance(node, ast.Name)}
            for node in tree.body:
                if isinstance(node, ast.ImportFrom):
                    for alias in node.names:
                        self.assertIn(alias.name, used, path)

    def test_kept_values_at_the_top_are_plain(self):
        for path, tree in trees():
            for node in tree.body:
                if isinstance(node, ast.Assign):
                    self.assertFalse([part for part in ast.walk(node.value) if isinstance(part, ast.Call)], path)

    def test_walks_are_not_kept(self):
        for path, node in nodes():
            if isinstance(node, ast.Assign) and isinstance(node.value, ast.Call):
                name = getattr(node.value.func, "id", getattr(node.value.func, "attr", ""))
                self.assertNotIn(name, ("zip", "range", "enumerate", "reversed", "items", "keys", "values"), path)


if __name__ == "__main__":
    unittest.main()
