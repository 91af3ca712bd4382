"""The files of the package keep to the rules of the language subset that a machine can look at easily."""

import ast
import builtins
import pathlib
import re
import unittest

PACKAGE = pathlib.Path(__file__).resolve().parent.parent / "mirrorstair"
FILES = sorted(PACKAGE.glob("*.py"))
BARRED_WORDS = (
    "type typing typing_extensions enum Enum IntEnum StrEnum Flag IntFlag Generic Protocol ABC ABCMeta namedtuple "
    "NamedTuple TypedDict TYPE_CHECKING abstractmethod"
).split()
BARRED_PIECES = ("dataclass", "overload", "contextmanager")
BARRED_NAMES = (
    "register mro elements open input law version_info with_traceback add_note attrgetter breakpoint builtins compile "
    "copyright credits delattr dir eval exec exit gc getattr globals hasattr help id importlib license locals "
    "methodcaller os quit setattr super type vars sys"
).split()
CALLED = (
    "len range enumerate zip min max sum abs sorted reversed int str bool list tuple dict set isinstance ord repr any all "
    "divmod super ValueError"
).split()
METHODS = (
    "append clear copy count endswith extend find get index insert isalnum isalpha isdigit islower isspace isupper items "
    "join keys ljust lower lstrip partition pop remove replace reverse rfind rjust rpartition rsplit rstrip setdefault "
    "split splitlines startswith strip update upper values zfill bit_length"
).split()
# Functions that are handed in, or taken from a table.
PASSED = {"action", "check", "parts_of", "made_of", "is_right_word"}
INTERFACE = {
    "data": {"read_data": "text", "data_text": "value", "kind_of": "value"},
    "written": {"written": "kind"},
    "stair": {"Stair": "__init__ tell held readers back write copy trace needed"},
    "quick": {"Quick": "made copy"},
    "walk": {"Walk": "__init__ step over answer back copy waiting held readers settled"},
    "frozen": {"frozen": "stair", "thawed": "text"},
    "desk": {"Desk": "tell"},
    "errors": {name: None for name in (
        "StairError NoBack NoKind NoLevel NoLine NoStair NotDone BadText Fault TooLong TooHigh NoName").split()},
}


def trees():
    return [(path, ast.parse(path.read_text())) for path in FILES]


def nodes(kind):
    return [(path, node) for path, tree in trees() for node in ast.walk(tree) if isinstance(node, kind)]


def bound_names(tree):
    """All names that a file binds, but attributes and methods."""
    found = []
    for node in ast.walk(tree):
        if isinstance(node, ast.Name) and isinstance(node.ctx, ast.Store):
            found.append(node.id)
        elif isinstance(node, ast.arg):
            found.append(node.arg)
        elif isinstance(node, ast.ExceptHandler) and node.name:
            found.append(node.name)
    return found


class Rules(unittest.TestCase):
    def test_files(self):
        self.assertIn("__init__.py", [path.name for path in FILES])
        for path in PACKAGE.iterdir():
            if path.name != "__pycache__":
                self.assertRegex(path.name, r"^[a-z_0-9]+\.py$")
                self.assertNotIn(path.stem, dir(builtins))

    def test_sizes_and_signs(self):
        for path in FILES:
            text = path.read_text()
            self.assertRegex(text, r"\A[\n -~]*\Z", path.name)
            rows = text.split("\n")
            self.assertLessEqual(len(rows), 399, path.name)
            self.assertLessEqual(max(len(row) for row in rows), 120, path.name)
            self.assertNotIn("%", text)
        for path, node in nodes(ast.FunctionDef):
            self.assertLessEqual(node.end_lineno - node.lineno + 1, 40, (path.name, node.name))

    def test_barred_words(self):
        for path in FILES:
            text = path.read_text()
            found = set(re.findall(r"\w+", text)) & set(BARRED_WORDS)
            self.assertEqual(set(), found, path.name)
            for piece in BARRED_PIECES:
                self.assertNotIn(piece, text)

    def test_names(self):
        for path, tree in trees():
            names = bound_names(tree)
            names += [node.name for node in ast.walk(tree) if isinstance(node, (ast.FunctionDef, ast.ClassDef))]
            top = [node.name for node in tree.body if isinstance(node, (ast.FunctionDef, ast.ClassDef))]
            for name in names:
                if name != "__init__":
                    self.assertFalse(name.startswith("_"), (path.name, name))
                self.assertNotIn(name, BARRED_NAMES, path.name)
            for name in bound_names(tree) + top:
                self.assertNotIn(name, dir(builtins), path.name)
            taken = [alias.name for node in ast.walk(tree) if isinstance(node, ast.ImportFrom) for alias in node.names]
            taken += [node.name for node in tree.body if isinstance(node, ast.ClassDef)]
            self.assertEqual(set(), set(taken) & set(bound_names(tree)), path.name)

    def test_module_level(self):
        plain = (ast.Constant, ast.Tuple, ast.Dict, ast.BinOp, ast.UnaryOp)
        for path, tree in trees():
            bound = []
            for at, node in enumerate(tree.body):
                if isinstance(node, ast.Assign):
                    self.assertEqual(1, len(node.targets))
                    self.assertIsInstance(node.value, plain)
                    bound.append(node.targets[0].id)
                elif isinstance(node, ast.ImportFrom):
                    bound += [alias.asname or alias.name for alias in node.names]
                elif isinstance(node, ast.Expr):
                    self.assertEqual(0, at)
                    self.assertIsInstance(node.value.value, str)
                else:
                    self.assertIsInstance(node, (ast.FunctionDef, ast.ClassDef))
                    bound.append(node.name)
            self.assertEqual(len(bound), len(set(bound)), path.name)

    def test_imports(self):
        taken = {}
        self.assertEqual([], nodes(ast.Import))
        for path, tree in trees():
            defined = taken.setdefault(path.stem, set())
            for node in tree.body:
                if isinstance(node, ast.ImportFrom):
                    self.assertEqual(0, node.level)
                    self.assertTrue(node.module.startswith("mirrorstair."))
                    stem = node.module.split(".")[1]
                    defined.add(stem)
                    home = ast.parse((PACKAGE / f"{stem}.py").read_text())
                    own = [one.name for one in home.body if isinstance(one, (ast.FunctionDef, ast.ClassDef))]
                    own += [one.targets[0].id for one in home.body if isinstance(one, ast.Assign)]
                    for alias in node.names:
                        self.assertIn(alias.name, own)
        for stem in taken:
            self.assertNotIn(stem, self.reached(taken, stem), "a ring of imports")

    def reached(self, taken, stem):
        found, left = set(), list(taken[stem])
        while left:
            one = left.pop()
            if one not in found:
                found.add(one)
                left += list(taken[one])
        return found

    def test_every_import_is_used(self):
        for path, tree in trees():
            used = {node.id for node in ast.walk(tree) if isinstance(node, ast.Name)}
            for node in tree.body:
                if isinstance(node, ast.ImportFrom):
                    for alias in node.names:
                        self.assertIn(alias.name, used, path.name)

    def test_calls(self):
        functions = {node.name for path, node in nodes((ast.FunctionDef, ast.ClassDef))}
        for path, node in nodes(ast.Call):
            if isinstance(node.func, ast.Attribute):
                self.assertTrue(node.func.attr in METHODS or node.func.attr in functions | {"__init__"}, node.func.attr)
            else:
                self.assertIsInstance(node.func, ast.Name)
                self.assertTrue(node.func.id in CALLED or node.func.id in functions | PASSED, node.func.id)

    def test_methods_and_attributes_have_unlike_names(self):
        methods, attributes = set(), set()
        for path, node in nodes(ast.ClassDef):
            methods |= {one.name for one in node.body if isinstance(one, ast.FunctionDef)}
        for path, node in nodes(ast.Attribute):
            if isinstance(node.ctx, ast.Store):
                attributes.add(node.attr)
        self.assertEqual(set(), methods & attributes)

    def test_no_other_statements(self):
        wrong = (
            ast.Global, ast.AsyncFunctionDef, ast.Await, ast.Yield, ast.YieldFrom, ast.Div, ast.SetComp, ast.Set,
            ast.GeneratorExp,
        )
        self.assertEqual([], nodes(wrong))
        for path, node in nodes(ast.Compare):
            for sign, other in zip(node.ops, node.comparators):
                if isinstance(sign, (ast.Is, ast.IsNot)):
                    self.assertIn(repr(getattr(other, "value", "other")), ("None", "True", "False"))
        for path, node in nodes(ast.Constant):
            self.assertNotIsInstance(node.value, (float, complex))

    def test_interface_is_defined_in_its_files(self):
        found = dict(trees())
        for stem, names in INTERFACE.items():
            body = found[PACKAGE / f"{stem}.py"].body
            defined = {node.name: node for node in body if isinstance(node, (ast.FunctionDef, ast.ClassDef))}
            for name, more in names.items():
                node = defined[name]
                if isinstance(node, ast.FunctionDef):
                    self.assertEqual([more], [one.arg for one in node.args.args])
                elif more:
                    methods = [one.name for one in node.body if isinstance(one, ast.FunctionDef)]
                    self.assertLessEqual(set(more.split()), set(methods))
