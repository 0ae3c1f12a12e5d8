"""The form of the package's code: some of the rules of the language, as far as its syntax shows them."""

import ast
import builtins
import pathlib
import re
import unittest

PACKAGE = pathlib.Path(__file__).resolve().parent.parent / "onceshade"
BUILTINS = set(
    "len range enumerate zip min max sum abs sorted reversed int str bool bytes list tuple dict set isinstance ord repr"
    " any all divmod Exception ValueError KeyError IndexError LookupError ZeroDivisionError".split()
)
BARRED_WORDS = (
    "type typing typing_extensions enum Enum IntEnum StrEnum Flag IntFlag Generic Protocol ABC ABCMeta namedtuple"
    " NamedTuple TypedDict TYPE_CHECKING abstractmethod"
).split()
BARRED_PARTS = ["dataclass", "overload", "contextmanager"]
BARRED_NAMES = set(
    "register mro elements open input version_info with_traceback add_note attrgetter breakpoint builtins compile"
    " copyright credits delattr dir eval exec exit gc getattr globals hasattr help id importlib license locals"
    " methodcaller os quit setattr super type vars sys format format_map".split()
)
METHODS = set(
    "append clear copy count endswith extend find get index insert isalnum isalpha isdigit islower isspace isupper items"
    " join keys ljust lower lstrip partition pop remove replace reverse rfind rjust rpartition rsplit rstrip setdefault"
    " split splitlines startswith strip update upper values zfill bit_length".split()
)
# As attributes: what strings, numbers, lists, dicts, sets and bytes have is barred too, but for a few of these.
BARRED_ATTRIBUTES = {name for kind in (str, int, list, dict, set, bytes) for name in dir(kind)} | {"args"}
BARRED_SYNTAX = (
    ast.With, ast.Match, ast.Global, ast.Nonlocal, ast.Yield, ast.YieldFrom, ast.AsyncFor, ast.AsyncFunctionDef,
    ast.AsyncWith, ast.Await, ast.GeneratorExp, ast.NamedExpr, ast.Import, ast.Div, ast.MatMult, ast.TryStar,
)


def files():
    return sorted(path for path in PACKAGE.rglob("*") if path.is_file() and "__pycache__" not in path.parts)


def trees():
    for path in files():
        yield path, ast.parse(path.read_text())


def bound_names(tree):
    """Every name that a file gives a meaning: variables, parameters, functions, classes, imports, errors."""
    for node in ast.walk(tree):
        if isinstance(node, ast.Name) and isinstance(node.ctx, ast.Store):
            yield node.id
        elif isinstance(node, ast.arg):
            yield node.arg
        elif isinstance(node, (ast.FunctionDef, ast.ClassDef)):
            yield node.name
        elif isinstance(node, ast.alias):
            yield node.asname or node.name
        elif isinstance(node, ast.ExceptHandler) and node.name:
            yield node.name


class Form(unittest.TestCase):
    def test_files_and_characters(self):
        for path in files():
            self.assertRegex(path.relative_to(PACKAGE).as_posix(), r"\A(__init__|[a-z][a-z0-9_]*)\.py\Z")
            text = path.read_text()
            self.assertRegex(text, r"\A[ -~\n]*\Z")
            lines = text.splitlines()
            self.assertLessEqual(len(lines), 400, path)
            self.assertLessEqual(max(len(line) for line in lines), 120, path)
            for word in BARRED_WORDS:
                self.assertNotRegex(text, rf"\b{word}\b", path)
            for part in BARRED_PARTS:
                self.assertNotIn(part, text, path)

    def test_statements_and_expressions(self):
        for path, tree in trees():
            for node in ast.walk(tree):
                where = (path.name, getattr(node, "lineno", 0))
                self.assertNotIsInstance(node, BARRED_SYNTAX, where)
                if isinstance(node, (ast.For, ast.While)):
                    self.assertFalse(node.orelse, where)
                if isinstance(node, ast.Constant):
                    self.assertNotIsInstance(node.value, (float, complex), where)
                    if isinstance(node.value, str):
                        self.assertNotIn("%", node.value, where)
                if isinstance(node, ast.Starred):
                    self.assertIsInstance(node.ctx, ast.Store, where)
                if isinstance(node, ast.Call):
                    self.assertFalse([word for word in node.keywords if word.arg is None], where)
                if isinstance(node, ast.FunctionDef):
                    self.assertLessEqual(node.end_lineno - node.lineno + 1, 40, where)
                    self.assertFalse(node.decorator_list or node.args.vararg or node.args.kwarg, where)
                    self.assertFalse(node.args.posonlyargs, where)
                if isinstance(node, ast.ExceptHandler):
                    self.assertIsNotNone(node.type, where)

    def test_module_level(self):
        allowed = (ast.Expr, ast.ImportFrom, ast.FunctionDef, ast.ClassDef, ast.Assign)
        for path, tree in trees():
            bound = []
            for node in tree.body:
                self.assertIsInstance(node, allowed, path)
                if isinstance(node, ast.Expr):
                    self.assertIsInstance(node.value, ast.Constant, path)
                if isinstance(node, ast.Assign):
                    self.assertFalse([part for part in ast.walk(node.value) if isinstance(part, ast.Call)], path)
                    bound += [target.id for target in node.targets]
                if isinstance(node, ast.ImportFrom):
                    bound += [alias.asname or alias.name for alias in node.names]
                if isinstance(node, (ast.FunctionDef, ast.ClassDef)):
                    bound.append(node.name)
            self.assertEqual(len(bound), len(set(bound)), path)

    def test_imports_name_the_file_that_defines(self):
        defined = {
            path.stem: {node.name for node in tree.body if isinstance(node, (ast.FunctionDef, ast.ClassDef))}
            | {target.id for node in tree.body if isinstance(node, ast.Assign) for target in node.targets}
            for path, tree in trees()
        }
        needs = {}
        for path, tree in trees():
            needs[path.stem] = []
            for node in ast.walk(tree):
                if isinstance(node, ast.ImportFrom):
                    self.assertIn(node, tree.body, path)
                    self.assertEqual(node.level, 0, path)
                    folder, stem = node.module.split(".")
                    self.assertEqual(folder, "onceshade", path)
                    self.assertLessEqual({alias.name for alias in node.names}, defined[stem], path)
                    needs[path.stem].append(stem)
        while needs:
            free = [stem for stem in needs if not [need for need in needs[stem] if need in needs]]
            self.assertTrue(free, f"files that import each other: {sorted(needs)}")
            for stem in free:
                del needs[stem]

    def test_names(self):
        for path, tree in trees():
            imported = {
                alias.asname or alias.name
                for node in tree.body if isinstance(node, ast.ImportFrom) for alias in node.names
            }
            classes = {node.name for node in tree.body if isinstance(node, ast.ClassDef)}
            bound = list(bound_names(tree))
            for name in bound:
                self.assertTrue(re.fullmatch(r"[A-Za-z][A-Za-z0-9_]*|__init__|__eq__|__repr__|__str__|__len__", name), name)
                self.assertNotIn(name, BARRED_NAMES, path)
                self.assertFalse(hasattr(builtins, name) and name != "__init__", (path.name, name))
            for name in imported | classes:
                self.assertEqual(bound.count(name), 1, (path.name, name))

    def test_methods_and_attributes(self):
        own = set()
        for path, tree in trees():
            for node in ast.walk(tree):
                if isinstance(node, ast.ClassDef):
                    own |= {part.name for part in node.body if isinstance(part, ast.FunctionDef)}
        assigned = {
            node.attr
            for path, tree in trees() for node in ast.walk(tree)
            if isinstance(node, ast.Attribute) and isinstance(node.ctx, ast.Store)
        }
        self.assertFalse(own & assigned)
        self.assertFalse(assigned & BARRED_ATTRIBUTES)
        for path, tree in trees():
            called = [node.func for node in ast.walk(tree) if isinstance(node, ast.Call)]
            for node in ast.walk(tree):
                if isinstance(node, ast.Attribute):
                    allowed = own | METHODS if node in called else assigned
                    self.assertIn(node.attr, allowed, (path.name, node.lineno))

    def test_builtins(self):
        for path, tree in trees():
            bound = set(bound_names(tree))
            for node in ast.walk(tree):
                if isinstance(node, ast.Name) and node.id not in bound:
                    self.assertIn(node.id, BUILTINS, (path.name, node.lineno))


if __name__ == "__main__":
    unittest.main()
