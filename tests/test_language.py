"""The rules of the language that can be seen in the code of the package without running it."""

import ast
import builtins
import functools
import pathlib
import re
import unittest

PACKAGE = pathlib.Path(__file__).resolve().parent.parent / "foldlines"
ALLOWED_BUILTINS = set(
    "len range enumerate zip min max sum abs sorted reversed int str bool list tuple dict set frozenset isinstance ord "
    "repr any all divmod iter next map Exception ValueError TypeError KeyError IndexError LookupError "
    "ZeroDivisionError ArithmeticError OverflowError RuntimeError NotImplementedError AttributeError StopIteration "
    "NotImplemented property staticmethod classmethod super".split())
# With an __eq__ in the package these take a list instead of a generator expression.
TAKE_LISTS = {"any", "all", "sum", "min", "max", "sorted"}
ON_THE_SPOT = {"zip", "enumerate", "reversed", "range", "items", "keys", "values"}
TAKE_VIEWS = {"list", "tuple", "dict", "sorted", "sum", "any", "all", "enumerate", "zip", "min", "max"}
BARRED_NAMES = set(
    "register mro elements open input law version_info with_traceback add_note attrgetter breakpoint builtins compile "
    "copyright credits delattr dir eval exec exit gc getattr globals hasattr help id importlib license locals "
    "methodcaller os quit setattr type vars sys".split())
BARRED_WORDS = re.compile(
    r"\b(type|typing|typing_extensions|enum|Enum|IntEnum|StrEnum|Flag|IntFlag|Generic|Protocol|ABC|ABCMeta|namedtuple|"
    r"NamedTuple|TypedDict|TYPE_CHECKING|abstractmethod)\b|dataclass|overload|contextmanager")
METHODS = set(
    "append clear copy count endswith extend find get index insert isalnum isalpha isdigit islower isspace isupper "
    "items join keys ljust lower lstrip partition pop remove replace reverse rfind rjust rpartition rsplit rstrip "
    "setdefault split splitlines startswith strip update upper values zfill bit_length removeprefix "
    "removesuffix".split())


def files():
    return sorted(PACKAGE.glob("*.py"))


@functools.cache
def trees():
    return [(path.name, ast.parse(path.read_text())) for path in files()]


def nodes(*kinds):
    return [(name, node) for name, tree in trees() for node in ast.walk(tree) if isinstance(node, kinds)]


class LanguageTest(unittest.TestCase):
    def test_files(self):
        others = [path.name for path in PACKAGE.iterdir() if path.suffix != ".py" and path.name != "__pycache__"]
        self.assertEqual(others, [])
        for path in files():
            text = path.read_text()
            self.assertRegex(path.name, r"^[a-z_]+\.py$")
            self.assertRegex(text, r"^[ -~\n]*$", path.name)
            self.assertLess(text.count("\n"), 400, path.name)
            self.assertLess(max(map(len, text.split("\n"))), 121, path.name)

    def test_functions_are_short(self):
        for name, node in nodes(ast.FunctionDef):
            self.assertLess(node.end_lineno - node.lineno, 40, (name, node.name))

    def test_statements(self):
        barred = (ast.Import, ast.Global, ast.AsyncFunctionDef, ast.Await, ast.With, ast.Match, ast.Div, ast.Set)
        self.assertEqual(nodes(*barred), [])
        for name, node in nodes(ast.Constant):
            self.assertNotIsInstance(node.value, (float, complex), name)
            if isinstance(node.value, str):
                self.assertNotIn("%", node.value, name)
        for name, node in nodes(ast.Assert, ast.NamedExpr):
            self.fail((name, node.lineno))
        lambdas = [(name, node.lineno) for name, node in nodes(ast.Lambda)]
        self.assertEqual(len(set(lambdas)), len(lambdas))

    def test_handlers_name_own_errors(self):
        own = {node.name for node in dict(trees())["errors.py"].body if isinstance(node, ast.ClassDef)}
        for name, node in nodes(ast.ExceptHandler):
            caught = node.type.elts if isinstance(node.type, ast.Tuple) else [node.type]
            self.assertLessEqual({part.id for part in caught}, own, name)
            self.assertIsNone(node.name)

    def test_what_is_done_at_last_is_simple(self):
        """Assignments of names, steps by a literal, and tests for None: nothing else stands in a finally."""
        for name, node in nodes(ast.Try):
            todo = list(node.finalbody)
            while todo:
                row = todo.pop()
                if isinstance(row, ast.If):
                    self.assertIsInstance(row.test, ast.Compare)
                    self.assertEqual([type(op) for op in row.test.ops], [ast.Is])
                    self.assertEqual(row.orelse, [])
                    todo += row.body
                elif isinstance(row, ast.AugAssign):
                    self.assertIsInstance(row.value, ast.Constant)
                else:
                    self.assertIsInstance(row, ast.Assign, name)
                    self.assertIsInstance(row.value, ast.Name, name)

    def test_imports(self):
        stems = {path.stem for path in files()}
        graph = {}
        for name, tree in trees():
            heads = [node for node in ast.walk(tree) if isinstance(node, ast.ImportFrom)]
            self.assertTrue(all(node in tree.body and node.level == 0 for node in heads), name)
            for node in heads:
                package, _, module = node.module.partition(".")
                self.assertEqual(package, "foldlines", name)
                self.assertIn(module, stems, name)
                graph.setdefault(name[:-3], set()).add(module)
                tops = {top.name for top in dict(trees())[module + ".py"].body if hasattr(top, "name")}
                tops |= {goal.id for top in dict(trees())[module + ".py"].body if isinstance(top, ast.Assign)
                         for goal in top.targets}
                self.assertLessEqual({alias.name for alias in node.names}, tops, name)
                self.assertTrue(all(alias.asname is None for alias in node.names), name)
        while graph:
            free = [stem for stem, goals in graph.items() if not goals & set(graph)]
            self.assertTrue(free, f"files import from each other: {graph}")
            graph = {stem: goals for stem, goals in graph.items() if stem not in free}

    def test_imports_are_used(self):
        for name, tree in trees():
            used = {node.id for node in ast.walk(tree) if isinstance(node, ast.Name)}
            for node in ast.walk(tree):
                if isinstance(node, ast.ImportFrom):
                    self.assertLessEqual({alias.name for alias in node.names}, used, name)

    def test_names(self):
        bound = {}
        for name, tree in trees():
            bound[name] = {alias.name for node in tree.body if isinstance(node, ast.ImportFrom) for alias in node.names}
            bound[name] |= {node.name for node in tree.body if isinstance(node, ast.ClassDef)}
        for name, node in nodes(ast.Name, ast.arg, ast.FunctionDef, ast.ClassDef, ast.Attribute):
            told = getattr(node, "id", None) or getattr(node, "arg", None) or getattr(node, "name", None) or node.attr
            self.assertNotIn(told, BARRED_NAMES, name)
            stored = isinstance(node, ast.arg) or isinstance(getattr(node, "ctx", None), ast.Store)
            if isinstance(node, (ast.Name, ast.arg)) and stored:
                self.assertNotIn(told, dir(builtins), name)
                self.assertNotIn(told, bound[name], name)
            if isinstance(node, ast.Name) and not stored and told in dir(builtins):
                self.assertIn(told, ALLOWED_BUILTINS, name)

    def test_words(self):
        for path in files():
            for name, node in [(path.name, node) for node in ast.walk(ast.parse(path.read_text()))]:
                for told in (getattr(node, "id", ""), getattr(node, "attr", ""), getattr(node, "arg", "") or ""):
                    self.assertIsNone(BARRED_WORDS.search(told), name)
            self.assertNotRegex(path.read_text(), r"\(type\)|Meta|metaclass=|_wall|_WallAttr")

    def test_lists_for_builtins(self):
        for name, node in nodes(ast.Call):
            if isinstance(node.func, ast.Name) and node.func.id in TAKE_LISTS:
                for part in node.args:
                    self.assertNotIsInstance(part, ast.GeneratorExp, (name, node.lineno))

    def test_views_are_iterated_at_once(self):
        right = []
        for _, node in nodes(ast.For, ast.comprehension):
            right.append(ast.unparse(node.iter))
        for _, node in nodes(ast.Call):
            if isinstance(node.func, ast.Name) and node.func.id in TAKE_VIEWS:
                right += [ast.unparse(part) for part in node.args]
        for name, node in nodes(ast.Call):
            told = node.func.id if isinstance(node.func, ast.Name) else getattr(node.func, "attr", "")
            if told in ON_THE_SPOT:
                self.assertIn(ast.unparse(node), right, (name, node.lineno))

    def test_methods(self):
        own = {node.name for _, node in nodes(ast.FunctionDef)}
        for name, node in nodes(ast.Call):
            if isinstance(node.func, ast.Attribute):
                told = node.func.attr
                self.assertTrue(told in METHODS or told in own or told == "__init__", (name, told))

    def test_generators_have_names_of_their_own(self):
        makers = [node.name for _, node in nodes(ast.FunctionDef)
                  if any(isinstance(part, (ast.Yield, ast.YieldFrom)) for part in ast.walk(node))]
        names = [node.name for _, node in nodes(ast.FunctionDef)]
        for maker in makers:
            self.assertEqual(names.count(maker), 1, maker)
            self.assertNotIn(maker, METHODS)

    def test_attributes(self):
        """Attributes have no names of methods of builtin values, and none of methods of any class."""
        barred = set("items keys values pop update append clear extend insert remove reverse setdefault sort args "
                     "encode decode hex fromhex format".split())
        methods = {part.name for _, node in nodes(ast.ClassDef) for part in node.body
                   if isinstance(part, ast.FunctionDef)}
        self.assertFalse(methods & barred)
        for name, node in nodes(ast.Attribute):
            if isinstance(node.ctx, ast.Store):
                self.assertNotIn(node.attr, barred | methods, name)

    def test_module_level(self):
        for name, tree in trees():
            for node in tree.body:
                docstring = isinstance(node, ast.Expr) and isinstance(node.value, ast.Constant)
                allowed = (ast.ImportFrom, ast.FunctionDef, ast.ClassDef, ast.Assign)
                self.assertTrue(docstring or isinstance(node, allowed), (name, node.lineno))
                if isinstance(node, ast.Assign):
                    self.assertEqual([type(part) for part in node.targets], [ast.Name])
                    self.assertFalse([part for part in ast.walk(node.value) if isinstance(part, ast.Call)])
