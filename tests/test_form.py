"""The form: what can be looked up by machine of the rules L1 to L28, in every file of the package."""

import ast
import builtins
import io
import re
import tokenize
import unittest
from pathlib import Path

PACKAGE = Path(__file__).resolve().parent.parent / "rideturns"
FILES = sorted(path for path in PACKAGE.iterdir() if path.name != "__pycache__")
SOURCES = {path.stem: path.read_text(encoding="utf-8") for path in FILES if path.suffix == ".py"}
TREES = {stem: ast.parse(source) for stem, source in SOURCES.items()}

ERRORS = {"Exception", "ValueError", "TypeError", "KeyError", "IndexError", "LookupError", "ZeroDivisionError",
          "ArithmeticError", "OverflowError", "RuntimeError", "NotImplementedError"}
BUILTINS = ERRORS | {"len", "range", "enumerate", "zip", "min", "max", "sum", "abs", "sorted", "reversed", "int", "str",
                     "bool", "list", "tuple", "dict", "set", "isinstance", "ord", "repr", "any", "all", "divmod"}
DOUBLE = {"__init__", "__eq__", "__repr__", "__str__", "__len__"}
METHODS = set("""append clear copy count endswith extend find get index insert isalnum isalpha isdigit islower isspace
isupper items join keys ljust lower lstrip partition pop remove replace reverse rfind rjust rpartition rsplit rstrip
setdefault split splitlines startswith strip update upper values zfill bit_length removeprefix removesuffix""".split())
BARRED_WORDS = set("""type typing typing_extensions enum Enum IntEnum StrEnum Flag IntFlag Generic Protocol ABC ABCMeta
namedtuple NamedTuple TypedDict TYPE_CHECKING abstractmethod""".split())
BARRED_NAMES = set("""register mro elements open input law version_info with_traceback add_note attrgetter breakpoint
builtins compile copyright credits delattr dir eval exec exit gc getattr globals hasattr help id importlib license
locals methodcaller os quit setattr super type vars sys""".split())
# Kinds of code that the rules bar, or that this program has no need of.
BARRED_CODE = (ast.Global, ast.AsyncFunctionDef, ast.AsyncFor, ast.AsyncWith, ast.Await, ast.With, ast.Match,
               ast.Div, ast.MatMult, ast.Yield, ast.YieldFrom, ast.NamedExpr, ast.AnnAssign, ast.Nonlocal, ast.Import)


def nodes(kind):
    return [(stem, node) for stem, tree in TREES.items() for node in ast.walk(tree) if isinstance(node, kind)]


def bound_names(tree):
    """All names that are bound anywhere, but by imports and as methods."""
    methods = {id(method) for node in ast.walk(tree) if isinstance(node, ast.ClassDef) for method in node.body}
    for node in ast.walk(tree):
        if isinstance(node, ast.Name) and isinstance(node.ctx, ast.Store):
            yield node.id
        elif isinstance(node, ast.arg):
            yield node.arg
        elif isinstance(node, (ast.FunctionDef, ast.ClassDef)) and id(node) not in methods:
            yield node.name


class Files(unittest.TestCase):
    def test_files_and_signs(self):
        for path in FILES:
            self.assertRegex(path.name, r"^(__init__|[a-z][a-z0-9_]*)\.py$")
        for stem, source in SOURCES.items():
            self.assertLessEqual(len(source.splitlines()), 399, stem)
            self.assertTrue(all(sign == "\n" or " " <= sign <= "~" for sign in source), stem)
            self.assertLessEqual(max(map(len, source.splitlines())), 120, stem)

    def test_words(self):
        for stem, source in SOURCES.items():
            self.assertEqual(set(re.findall(r"\w+", source)) & BARRED_WORDS, set(), stem)
            self.assertNotRegex(source, "dataclass|overload|contextmanager", stem)

    def test_strings(self):
        for stem, source in SOURCES.items():
            for token in tokenize.generate_tokens(io.StringIO(source).readline):
                if token.type == tokenize.STRING:
                    self.assertNotIn("%", token.string, stem)
                    self.assertNotRegex(token.string.replace("\\\\", ""), r"\\[^nt'\"]", stem)

    def test_imports(self):
        above = {stem: set() for stem in TREES}
        for stem, tree in TREES.items():
            for at, node in enumerate(tree.body):
                if isinstance(node, ast.ImportFrom):
                    self.assertTrue(all(isinstance(one, (ast.Expr, ast.ImportFrom)) for one in tree.body[:at]), stem)
        for stem, node in nodes(ast.ImportFrom):
            package, _, module = node.module.partition(".")
            self.assertEqual((package, node.level), ("rideturns", 0), stem)
            above[stem].add(module)
            defined = {name for one in TREES[module].body for name in
                       ([one.name] if hasattr(one, "name") else [t.id for t in getattr(one, "targets", [])])}
            for alias in node.names:
                self.assertIn(alias.name, defined, stem)
                self.assertIsNone(alias.asname, stem)
        while above:
            free = [stem for stem in above if not above[stem] & set(above)]
            self.assertTrue(free, "files that import from each other")
            above = {stem: above[stem] for stem in above if stem not in free}


class Code(unittest.TestCase):
    def test_module_level(self):
        for stem, tree in TREES.items():
            self.assertTrue(ast.get_docstring(tree), stem)
            for node in tree.body[1:]:
                self.assertIsInstance(node, (ast.ImportFrom, ast.FunctionDef, ast.ClassDef, ast.Assign), stem)
                if isinstance(node, ast.Assign):
                    self.assertEqual([type(target) for target in node.targets], [ast.Name], stem)
                    self.is_plain(tree, node)

    def is_plain(self, tree, node):
        """A plain value, or a dict of functions that are defined above it in the file."""
        if isinstance(node.value, ast.Dict) and any([isinstance(one, ast.Name) for one in node.value.values]):
            above = {one.name for one in tree.body if isinstance(one, ast.FunctionDef) and one.lineno < node.lineno}
            for key, one in zip(node.value.keys, node.value.values, strict=True):
                ast.literal_eval(key)
                self.assertIn(one.id, above)
        else:
            ast.literal_eval(node.value)

    def test_barred_code(self):
        self.assertEqual([(stem, node) for stem, node in nodes(BARRED_CODE)], [])
        for stem, node in nodes(ast.Constant):
            self.assertNotIsInstance(node.value, (float, complex, bytes), stem)
        for stem, node in nodes((ast.FunctionDef, ast.ClassDef)):
            self.assertEqual(node.decorator_list, [], stem)
        for stem, node in nodes(ast.FunctionDef):
            self.assertLessEqual(node.end_lineno - node.lineno + 1, 40, (stem, node.name))
            self.assertEqual(node.args.posonlyargs, [], (stem, node.name))

    def test_names(self):
        for stem, tree in TREES.items():
            local = list(bound_names(tree))
            imported = {alias.name for one, node in nodes(ast.ImportFrom) if one == stem for alias in node.names}
            top = imported | {node.name for node in tree.body if isinstance(node, ast.ClassDef)}
            for name in local:
                self.assertRegex(name, "^[A-Za-z]", stem)
                self.assertNotIn(name, BARRED_NAMES, stem)
                self.assertFalse(hasattr(builtins, name), (stem, name))
                self.assertNotIn(name, imported, stem)
            for node in ast.walk(tree):
                if isinstance(node, ast.Name) and isinstance(node.ctx, ast.Load):
                    self.assertIn(node.id, BUILTINS | top | set(local), stem)

    def test_methods_and_attributes(self):
        methods = {one.name for _, node in nodes(ast.ClassDef) for one in node.body if isinstance(one, ast.FunctionDef)}
        called = {id(node.func) for _, node in nodes(ast.Call)}
        kept = {node.attr for _, node in nodes(ast.Attribute) if isinstance(node.ctx, ast.Store)}
        self.assertEqual(kept & (methods | METHODS), set())
        for name in methods | kept:
            self.assertNotIn(name, BARRED_NAMES)
            self.assertTrue(name in DOUBLE or re.match("^[a-z]", name), name)
        for stem, node in nodes(ast.Attribute):
            if id(node) in called:
                self.assertIn(node.attr, methods | METHODS, stem)
            else:
                self.assertIn(node.attr, kept, stem)

    def test_builtins_take_lists(self):
        for stem, node in nodes(ast.Call):
            if isinstance(node.func, ast.Name) and node.func.id in ("any", "all", "min", "max", "sum", "sorted"):
                self.assertFalse(any(isinstance(one, ast.GeneratorExp) for one in node.args), (stem, node.lineno))

    def test_is_and_raise(self):
        for stem, node in nodes(ast.Compare):
            for sign, side in zip(node.ops, node.comparators):
                if isinstance(sign, (ast.Is, ast.IsNot)):
                    self.assertTrue(isinstance(side, ast.Constant) and side.value in (None, True, False), stem)
        refusals = {node.name for node in TREES["errors"].body if isinstance(node, ast.ClassDef)}
        for stem, node in nodes(ast.Raise):
            self.assertIsInstance(node.exc, ast.Call, stem)
            self.assertIn(node.exc.func.id, refusals, stem)

    def test_own_refusals_alone_are_caught(self):
        refusals = {node.name for node in TREES["errors"].body if isinstance(node, ast.ClassDef)}
        for stem, node in nodes(ast.Try):
            self.assertEqual((node.orelse, node.finalbody), ([], []), stem)
            for handler in node.handlers:
                caught = handler.type.elts if isinstance(handler.type, ast.Tuple) else [handler.type]
                self.assertTrue({one.id for one in caught} <= refusals, stem)
                self.assertIsNone(handler.name, stem)

    def test_double_underscore_methods(self):
        for stem, node in nodes(ast.FunctionDef):
            if node.name in ("__eq__", "__str__", "__repr__", "__len__"):
                self.assertIsInstance(node.body[-1], ast.Return, stem)
                for one in ast.walk(node):
                    self.assertNotIsInstance(one, (ast.AugAssign, ast.Delete), stem)
                    if isinstance(one, ast.Assign):
                        self.assertIsInstance(one.value, (ast.List, ast.ListComp), stem)
                    if isinstance(one, ast.Return) and node.name in ("__str__", "__repr__"):
                        self.assertIsInstance(one.value, (ast.JoinedStr, ast.Constant, ast.Call), stem)


if __name__ == "__main__":
    unittest.main()
