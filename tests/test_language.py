"""What a program can see of shared/LANGUAGE.md in the package's own files."""

import ast
import pathlib
import re
import unittest

PACKAGE = pathlib.Path(__file__).resolve().parent.parent / "keepslots"

STATEMENTS = (
    ast.Assign, ast.AugAssign, ast.If, ast.While, ast.For, ast.Return, ast.Break, ast.Continue,
    ast.Pass, ast.Raise, ast.Try, ast.Expr, ast.FunctionDef, ast.ClassDef, ast.ImportFrom,
)
EXPRESSIONS = (
    ast.Constant, ast.Name, ast.Attribute, ast.Subscript, ast.Slice, ast.Call, ast.Compare, ast.BoolOp,
    ast.BinOp, ast.UnaryOp, ast.IfExp, ast.List, ast.Tuple, ast.Dict, ast.Set, ast.ListComp, ast.Lambda,
    ast.JoinedStr, ast.FormattedValue,
)
PYTHONS_OWN = """
    len range enumerate zip min max sum abs sorted reversed int str bool list tuple dict set frozenset
    isinstance ord repr any all divmod Exception ValueError TypeError KeyError IndexError LookupError
    ZeroDivisionError ArithmeticError OverflowError RuntimeError NotImplementedError AttributeError
    StopIteration
""".split()
METHODS = """
    append clear copy count endswith extend find get index insert isalnum isalpha isdigit islower isspace
    isupper items join keys ljust lower lstrip partition pop remove replace reverse rfind rjust rpartition
    rsplit rstrip setdefault split splitlines startswith strip update upper values zfill bit_length
""".split()
WORDS_NOWHERE = """
    type typing typing_extensions enum Enum IntEnum StrEnum Flag IntFlag Generic Protocol ABC ABCMeta
    namedtuple NamedTuple TypedDict TYPE_CHECKING abstractmethod
""".split()

NAMES_NOWHERE = """
    register mro elements open input version_info with_traceback add_note attrgetter breakpoint builtins
    compile copyright credits delattr dir eval exec exit gc getattr globals hasattr help id importlib license
    locals methodcaller os quit setattr super type vars sys
""".split()


def package_files():
    return sorted(path for path in PACKAGE.rglob("*") if path.is_file() and "__pycache__" not in path.parts)


def parsed():
    return {path.stem: ast.parse(path.read_text()) for path in package_files()}


def bound_at_top(tree):
    found = []
    for node in tree.body:
        if isinstance(node, (ast.FunctionDef, ast.ClassDef)):
            found.append(node.name)
        elif isinstance(node, ast.Assign):
            found.append(node.targets[0].id)
        elif isinstance(node, ast.ImportFrom):
            found += [alias.name for alias in node.names]
    return found


def bound_within(tree):
    found = [node.id for node in ast.walk(tree) if isinstance(node, ast.Name) and isinstance(node.ctx, ast.Store)]
    return found + [node.arg for node in ast.walk(tree) if isinstance(node, ast.arg)]


class Text(unittest.TestCase):
    def test_files_have_plain_names(self):
        for path in package_files():
            self.assertEqual(path.parent, PACKAGE)
            self.assertRegex(path.name, r"^([a-z][a-z0-9_]*|__init__)\.py$")
            self.assertFalse(path.name.startswith("test"))

    def test_sizes_and_signs(self):
        for path in package_files():
            lines = path.read_text().split("\n")
            self.assertLessEqual(len(lines), 399)
            for line in lines:
                self.assertLessEqual(len(line), 120)
                self.assertRegex(line, r"^[ -~]*$")

    def test_words_that_stand_nowhere(self):
        for path in package_files():
            words = re.findall(r"\w+", path.read_text())
            self.assertEqual([word for word in words if word in WORDS_NOWHERE], [])
            self.assertNotRegex(path.read_text(), "dataclass|overload|contextmanager")


class Shape(unittest.TestCase):
    def test_statements_and_expressions(self):
        for name, tree in parsed().items():
            for node in ast.walk(tree):
                if isinstance(node, ast.stmt):
                    self.assertIsInstance(node, STATEMENTS, f"{name}:{node.lineno}")
                if isinstance(node, ast.expr):
                    self.assertIsInstance(node, EXPRESSIONS, f"{name}:{node.lineno}")
                if isinstance(node, ast.Assign):
                    self.assertEqual(len(node.targets), 1, f"{name}:{node.lineno}")
                if isinstance(node, (ast.For, ast.While)):
                    self.assertEqual(node.orelse, [], f"{name}:{node.lineno}")
                if isinstance(node, ast.Constant):
                    self.assertIn(type(node.value), (int, str, bool, type(None)), f"{name}:{node.lineno}")

    def test_top_of_each_file(self):
        for name, tree in parsed().items():
            self.assertTrue(ast.get_docstring(tree), name)
            for node in tree.body[1:]:
                kinds = (ast.ImportFrom, ast.FunctionDef, ast.ClassDef, ast.Assign)
                self.assertIsInstance(node, kinds, f"{name}:{node.lineno}")
            names = bound_at_top(tree)
            self.assertEqual(len(set(names)), len(names), name)

    def test_imports_come_from_the_package_alone(self):
        trees = parsed()
        for name, tree in trees.items():
            for node in ast.walk(tree):
                if isinstance(node, ast.ImportFrom):
                    folder, _, source = node.module.partition(".")
                    self.assertEqual((folder, node.level), ("keepslots", 0))
                    for alias in node.names:
                        self.assertIsNone(alias.asname)
                        self.assertIn(alias.name, bound_at_top(trees[source]), name)

    def test_no_two_files_draw_from_one_another(self):
        drawn = {}
        for name, tree in parsed().items():
            sources = [node.module for node in ast.walk(tree) if isinstance(node, ast.ImportFrom)]
            drawn[name] = {source.partition(".")[2] for source in sources}
        while drawn:
            lowest = [name for name, sources in drawn.items() if not sources & set(drawn)]
            self.assertNotEqual(lowest, [], f"a circle among {sorted(drawn)}")
            for name in lowest:
                del drawn[name]

    def test_functions_and_classes(self):
        for name, tree in parsed().items():
            for node in ast.walk(tree):
                if isinstance(node, (ast.FunctionDef, ast.ClassDef)):
                    self.assertEqual(node.decorator_list, [])
                if isinstance(node, ast.FunctionDef):
                    self.assertLessEqual(node.end_lineno - node.lineno + 1, 40, f"{name}: {node.name}")
                    given = node.args
                    self.assertIsNone(given.vararg)
                    self.assertIsNone(given.kwarg)
                    self.assertEqual(given.kwonlyargs + given.posonlyargs, [])
                if isinstance(node, ast.ClassDef):
                    self.assertLessEqual(len(node.bases), 1)
                    self.assertEqual(node.keywords, [])

    def test_answers_is_written_in_cachelab_alone(self):
        homes = [name for name, tree in parsed().items() if "answers" in bound_at_top(tree)]
        self.assertEqual(homes, ["cachelab"])


class Names(unittest.TestCase):
    def test_plain_and_not_pythons_own(self):
        pythons = dir(__builtins__) if not isinstance(__builtins__, dict) else list(__builtins__)
        for name, tree in parsed().items():
            for bound in bound_at_top(tree) + bound_within(tree):
                self.assertRegex(bound, "^[A-Za-z][A-Za-z0-9_]*$", name)
                self.assertNotIn(bound, pythons, name)

    def test_pythons_own_names_are_the_listed_ones(self):
        for name, tree in parsed().items():
            known = PYTHONS_OWN + bound_at_top(tree) + bound_within(tree)
            for node in ast.walk(tree):
                if isinstance(node, ast.Name):
                    self.assertIn(node.id, known, f"{name}:{node.lineno}")

    def test_names_that_are_not_used(self):
        for name, tree in parsed().items():
            used = bound_at_top(tree) + bound_within(tree)
            for node in ast.walk(tree):
                if isinstance(node, ast.Name):
                    used.append(node.id)
                elif isinstance(node, ast.Attribute):
                    used.append(node.attr)
                elif isinstance(node, ast.FunctionDef):
                    used.append(node.name)
            self.assertEqual([word for word in used if word in NAMES_NOWHERE], [], name)

    def test_locals_are_not_called_like_classes_and_imports(self):
        for name, tree in parsed().items():
            above = [alias.name for node in tree.body if isinstance(node, ast.ImportFrom) for alias in node.names]
            above += [node.name for node in tree.body if isinstance(node, ast.ClassDef)]
            self.assertEqual([word for word in bound_within(tree) if word in above], [], name)

    def test_methods_and_values_are_apart(self):
        methods, values, read = [], [], []
        for tree in parsed().values():
            for node in ast.walk(tree):
                if isinstance(node, ast.ClassDef):
                    methods += [part.name for part in node.body if isinstance(part, ast.FunctionDef)]
                elif isinstance(node, ast.Attribute):
                    (values if isinstance(node.ctx, ast.Store) else read).append(node.attr)
        self.assertEqual(set(methods) & set(values), set())
        self.assertEqual([name for name in read if name not in methods + values + METHODS], [])

    def test_two_underscores_stand_at_listed_methods_alone(self):
        for name, tree in parsed().items():
            for node in ast.walk(tree):
                if isinstance(node, ast.FunctionDef) and node.name.startswith("_"):
                    self.assertIn(node.name, ("__init__", "__eq__", "__repr__", "__str__", "__len__"), name)
