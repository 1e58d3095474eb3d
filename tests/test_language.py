"""The package's files keep to the part of Python that the program is written in."""

import ast
import builtins
import pathlib
import re
import unittest

PACKAGE = pathlib.Path(__file__).resolve().parent.parent / "facilitybank"

STATEMENTS = (ast.Assign, ast.AugAssign, ast.If, ast.While, ast.For, ast.Return, ast.Break, ast.Continue, ast.Pass,
              ast.Raise, ast.Try, ast.Expr, ast.FunctionDef, ast.ClassDef, ast.ImportFrom)
EXPRESSIONS = (ast.Constant, ast.Name, ast.Attribute, ast.Subscript, ast.Slice, ast.Call, ast.BinOp, ast.UnaryOp,
               ast.BoolOp, ast.Compare, ast.IfExp, ast.List, ast.Tuple, ast.Dict, ast.ListComp, ast.Lambda,
               ast.JoinedStr, ast.FormattedValue)
OWN_NAMES = set("""len range enumerate zip min max sum abs sorted reversed int str bool list tuple dict set frozenset
    isinstance ord repr any all divmod Exception ValueError TypeError KeyError IndexError LookupError
    ZeroDivisionError ArithmeticError OverflowError RuntimeError NotImplementedError StopIteration""".split())
OWN_METHODS = set("""append clear copy count endswith extend find get index insert isalnum isalpha isdigit islower
    isspace isupper items join keys ljust lower lstrip partition pop remove replace reverse rfind rjust rpartition
    rsplit rstrip setdefault split splitlines startswith strip update upper values zfill bit_length""".split())
UNUSED_WORDS = r"\b(type|typing|typing_extensions|enum|Enum|IntEnum|StrEnum|Flag|IntFlag|Generic|Protocol|ABC" \
    r"|ABCMeta|namedtuple|NamedTuple|TypedDict|TYPE_CHECKING|abstractmethod)\b|dataclass|overload|contextmanager"
UNUSED_NAMES = set("register mro elements open input version_info with_traceback add_note format format_map".split())


def bound_names(tree):
    for node in ast.walk(tree):
        if isinstance(node, ast.Name) and isinstance(node.ctx, ast.Store):
            yield node.id
        elif isinstance(node, ast.arg):
            yield node.arg
        elif isinstance(node, (ast.FunctionDef, ast.ClassDef)):
            yield node.name


def local_names(function):
    return {name for part in function.body + [function.args] for name in bound_names(part)}


class Language(unittest.TestCase):
    def setUp(self):
        self.texts = {path.name: path.read_text("utf-8") for path in sorted(PACKAGE.glob("*.py"))}
        self.trees = {name: ast.parse(text) for name, text in self.texts.items()}

    def nodes(self):
        for name, tree in self.trees.items():
            for node in ast.walk(tree):
                yield f"{name}:{getattr(node, 'lineno', 0)}", node

    def test_files(self):
        for path in PACKAGE.iterdir():
            if path.name != "__pycache__":
                self.assertRegex(path.name, r"^([a-z][a-z0-9_]*|__init__)\.py$")

    def test_signs_and_sizes(self):
        for name, text in self.texts.items():
            self.assertRegex(text, r"\A[ -~\n]*\Z", name)
            self.assertIsNone(re.search(UNUSED_WORDS, text), name)
            self.assertLessEqual(text.count("\n"), 400, name)
            self.assertLessEqual(max(map(len, text.split("\n"))), 120, name)
        for where, node in self.nodes():
            if isinstance(node, ast.FunctionDef):
                self.assertLessEqual(node.end_lineno - node.lineno + 1, 40, where)

    def test_statements_and_expressions(self):
        for where, node in self.nodes():
            if isinstance(node, ast.stmt):
                self.assertIsInstance(node, STATEMENTS, where)
            if isinstance(node, ast.expr):
                self.assertIsInstance(node, EXPRESSIONS, where)
            if isinstance(node, ast.Constant):
                self.assertIsInstance(node.value, (int, str, type(None)), where)
            if isinstance(node, ast.Assign):
                self.assertEqual(len(node.targets), 1, where)
            if isinstance(node, (ast.For, ast.While)):
                self.assertEqual(node.orelse, [], where)
            if isinstance(node, (ast.FunctionDef, ast.ClassDef)):
                self.assertEqual(node.decorator_list, [], where)
            if isinstance(node, ast.BinOp):
                self.assertNotIsInstance(node.op, (ast.Div, ast.MatMult), where)

    def test_forms_of_statements_and_expressions(self):
        for where, node in self.nodes():
            if isinstance(node, ast.Assign):
                self.assertIsInstance(node.targets[0], (ast.Name, ast.Attribute, ast.Subscript), where)
            if isinstance(node, ast.ListComp):
                self.assertEqual(len(node.generators), 1, where)
                self.assertLessEqual(len(node.generators[0].ifs), 1, where)
            if isinstance(node, ast.Compare):
                self.assertFalse(any(isinstance(sign, (ast.Is, ast.IsNot)) for sign in node.ops), where)
            if isinstance(node, ast.Call):
                self.assertEqual(node.keywords, [], where)
            if isinstance(node, ast.arguments):
                self.assertEqual((node.vararg, node.kwarg, node.kwonlyargs, node.posonlyargs), (None, None, [], []))

    def test_each_name_once_at_the_top(self):
        for name, tree in self.trees.items():
            tops = [alias.name for node in tree.body if isinstance(node, ast.ImportFrom) for alias in node.names]
            for node in tree.body:
                if isinstance(node, ast.Assign):
                    tops.append(node.targets[0].id)
                elif isinstance(node, (ast.FunctionDef, ast.ClassDef)):
                    tops.append(node.name)
            self.assertEqual(len(tops), len(set(tops)), name)

    def test_what_is_walked_at_once(self):
        """zip and their like stand behind an in, sets within len or sorted; neither is kept."""
        walked, within = set(), set()
        for where, node in self.nodes():
            if isinstance(node, (ast.For, ast.comprehension)):
                walked.add(node.iter)
            if isinstance(node, ast.Call) and isinstance(node.func, ast.Name) and node.func.id in ("len", "sorted"):
                within.add(node.args[0])
        for where, node in self.nodes():
            if isinstance(node, ast.Call):
                called = node.func.attr if isinstance(node.func, ast.Attribute) else node.func.id
                if called in ("zip", "enumerate", "reversed", "range", "items", "keys", "values"):
                    self.assertIn(node, walked, where)
                if called in ("set", "frozenset"):
                    self.assertIn(node, within, where)

    def test_nothing_stands_idle(self):
        """Each name of a file's top is used somewhere, and each import in its file."""
        used = {name: {node.id for node in ast.walk(tree) if isinstance(node, ast.Name)}
                for name, tree in self.trees.items()}
        every = set().union(*used.values()) | {"answers"}
        for name, tree in self.trees.items():
            for node in tree.body:
                if isinstance(node, ast.ImportFrom):
                    self.assertLessEqual({alias.name for alias in node.names}, used[name], name)
                elif isinstance(node, (ast.FunctionDef, ast.ClassDef)):
                    self.assertIn(node.name, every, name)

    def test_only_calls_stand_by_themselves(self):
        for name, tree in self.trees.items():
            self.assertIsNotNone(ast.get_docstring(tree), name)
            for node in ast.walk(ast.Module(tree.body[1:], [])):
                if isinstance(node, ast.Expr):
                    self.assertIsInstance(node.value, ast.Call, f"{name}:{node.lineno}")

    def test_imports(self):
        drawn = {name: set() for name in self.trees}
        for name, tree in self.trees.items():
            for node in ast.walk(tree):
                if isinstance(node, ast.ImportFrom):
                    self.assertRegex(node.module, r"^facilitybank\.[a-z]+$", name)
                    source = node.module.partition(".")[2] + ".py"
                    drawn[name].add(source)
                    tops = {top for part in self.trees[source].body for top in bound_names(part)}
                    for alias in node.names:
                        self.assertIn(alias.name, tops, name)
                        self.assertIsNone(alias.asname, name)
        while drawn:
            free = [name for name, sources in drawn.items() if not sources & set(drawn)]
            self.assertTrue(free, drawn)
            drawn = {name: sources for name, sources in drawn.items() if name not in free}

    def test_names(self):
        for name, tree in self.trees.items():
            imported = {alias.name for node in tree.body if isinstance(node, ast.ImportFrom) for alias in node.names}
            classes = {node.name for node in tree.body if isinstance(node, ast.ClassDef)}
            for bound in bound_names(tree):
                self.assertRegex(bound, r"^([A-Za-z][A-Za-z0-9_]*|__init__)$", name)
                self.assertNotIn(bound, set(dir(builtins)) | UNUSED_NAMES, name)
            for node in ast.walk(tree):
                if isinstance(node, ast.FunctionDef):
                    self.assertEqual(local_names(node) & (imported | classes), set(), name)

    def test_names_of_pythons_own(self):
        for where, node in self.nodes():
            if isinstance(node, ast.Name) and node.id in dir(builtins):
                self.assertIn(node.id, OWN_NAMES, where)
            if isinstance(node, ast.Attribute):
                self.assertNotIn(node.attr, UNUSED_NAMES, where)
            if isinstance(node, ast.Call) and isinstance(node.func, ast.Attribute):
                self.assertIn(node.func.attr, OWN_METHODS, where)


if __name__ == "__main__":
    unittest.main()
