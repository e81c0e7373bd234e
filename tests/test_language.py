"""The package keeps to the small part of Python that it is written in, as far as that can be seen rule by rule."""

import ast
import os
import re
import unittest

import streetroundsdesk

FOLDER = os.path.dirname(os.path.abspath(streetroundsdesk.__file__))
NODES = (
    "Module Import ImportFrom alias FunctionDef arguments arg ClassDef Expr Assign AugAssign If While For Return Break "
    "Continue Pass Raise Try ExceptHandler Name Load Store Constant Tuple List Dict Set BinOp UnaryOp BoolOp Compare "
    "IfExp Call keyword Attribute Subscript Slice ListComp comprehension JoinedStr FormattedValue Lambda "
    "Add Sub Mult FloorDiv Mod Pow LShift RShift BitOr BitAnd BitXor Invert Not USub UAdd And Or "
    "Eq NotEq Lt LtE Gt GtE Is IsNot In NotIn"
).split()
OWN_OF_PYTHON = (
    "len range enumerate zip min max sum abs sorted reversed int str bool list tuple dict set frozenset isinstance ord "
    "repr any all divmod Exception ValueError TypeError KeyError IndexError LookupError ZeroDivisionError "
    "ArithmeticError OverflowError RuntimeError NotImplementedError AttributeError StopIteration"
).split()
METHODS = (
    "append clear copy count endswith extend find get index insert isalnum isalpha isdigit islower isspace isupper "
    "items join keys ljust lower lstrip partition pop remove replace reverse rfind rjust rpartition rsplit rstrip "
    "setdefault split splitlines startswith strip update upper values zfill bit_length"
).split()
WORDS_LEFT_OUT = (
    "type typing typing_extensions enum Enum IntEnum StrEnum Flag IntFlag Generic Protocol ABC ABCMeta namedtuple "
    "NamedTuple TypedDict TYPE_CHECKING abstractmethod"
).split()


def sources():
    for name in sorted(os.listdir(FOLDER)):
        if name != "__pycache__":
            with open(os.path.join(FOLDER, name), encoding="utf-8") as handle:
                yield name, handle.read()


def names_of_python():
    return set(dir(__builtins__) if not isinstance(__builtins__, dict) else __builtins__)


def imported(tree):
    return [alias.name for node in tree.body if isinstance(node, ast.ImportFrom) for alias in node.names]


def bound(node):
    """The names that a def binds: its parameters and its locals."""
    out = [arg.arg for arg in node.args.args]
    return out + [part.id for part in ast.walk(node) if isinstance(part, ast.Name) and isinstance(part.ctx, ast.Store)]


class LanguageTest(unittest.TestCase):
    def setUp(self):
        self.trees = [(name, ast.parse(text)) for name, text in sources()]

    def nodes(self, *kinds):
        return [(name, node) for name, tree in self.trees for node in ast.walk(tree) if isinstance(node, kinds)]

    def test_files_signs_and_sizes(self):
        for name, text in sources():
            self.assertRegex(name, r"\A[a-z_][a-z0-9_]*\.py\Z")
            self.assertNotIn(name[:-3], names_of_python())
            self.assertRegex(text, r"\A[ -~\n]*\Z", name)
            lines = text.split("\n")
            self.assertLessEqual(len(lines), 400, name)
            self.assertLessEqual(max(len(row) for row in lines), 120, name)
        for name, node in self.nodes(ast.FunctionDef):
            self.assertLessEqual(node.end_lineno - node.lineno + 1, 40, (name, node.name))

    def test_words_left_out(self):
        for name, text in sources():
            self.assertEqual(set(re.findall(r"\w+", text)) & set(WORDS_LEFT_OUT), set(), name)
            self.assertNotRegex(text, "dataclass|overload|contextmanager", name)

    def test_statements_and_expressions(self):
        for name, node in self.nodes(ast.AST):
            self.assertIn(node.__class__.__name__, NODES, (name, getattr(node, "lineno", 0)))
        for name, node in self.nodes(ast.Constant):
            self.assertIn(node.value.__class__, (int, str, bool, None.__class__), (name, node.lineno))
        for name, node in self.nodes(ast.For, ast.While, ast.Try):
            self.assertFalse(node.orelse and not isinstance(node, ast.Try), (name, node.lineno))
        for name, node in self.nodes(ast.Assign):
            self.assertEqual(len(node.targets), 1, (name, node.lineno))
        for name, node in self.nodes(ast.ListComp):
            self.assertEqual(len(node.generators), 1, (name, node.lineno))
            self.assertLessEqual(len(node.generators[0].ifs), 1, (name, node.lineno))
        for name, node in self.nodes(ast.BinOp):
            self.assertFalse(isinstance(node.op, ast.Pow), (name, node.lineno))
        for name, node in self.nodes(ast.Compare):
            for op, right in zip(node.ops, node.comparators):
                if isinstance(op, (ast.Is, ast.IsNot)):
                    self.assertTrue(isinstance(right, ast.Constant), (name, node.lineno))

    def test_imports(self):
        drawn = {}
        for name, tree in self.trees:
            drawn[name[:-3]] = []
            for node in [node for node in ast.walk(tree) if isinstance(node, (ast.Import, ast.ImportFrom))]:
                self.assertTrue(isinstance(node, ast.ImportFrom) and node.level == 0, (name, node.lineno))
                package, dot, source = node.module.partition(".")
                self.assertEqual(package, "streetroundsdesk", (name, node.lineno))
                self.assertIn(node, tree.body, (name, node.lineno))
                there = dict(self.trees)[source + ".py"]
                defined = [part.name for part in there.body if isinstance(part, (ast.FunctionDef, ast.ClassDef))]
                defined += [part.targets[0].id for part in there.body if isinstance(part, ast.Assign)]
                self.assertLessEqual({alias.name for alias in node.names}, set(defined), (name, node.lineno))
                drawn[name[:-3]].append(source)
        while drawn:
            free = [name for name in drawn if not any(source in drawn for source in drawn[name])]
            self.assertNotEqual(free, [], "files draw from one another")
            for name in free:
                drawn.pop(name)

    def test_names(self):
        for name, tree in self.trees:
            top = [node for node in tree.body if isinstance(node, (ast.FunctionDef, ast.ClassDef, ast.Assign))]
            tops = [node.targets[0].id if isinstance(node, ast.Assign) else node.name for node in top]
            self.assertEqual(len(tops + imported(tree)), len(set(tops + imported(tree))), name)
            self.assertEqual(set(tops + imported(tree)) & names_of_python(), set(), name)
            classes = [node.name for node in tree.body if isinstance(node, ast.ClassDef)]
            for node in [node for node in ast.walk(tree) if isinstance(node, ast.FunctionDef)]:
                kept = set(bound(node))
                self.assertEqual(kept & (names_of_python() | set(classes) | set(imported(tree))), set(), (name, node.name))
                self.assertFalse([word for word in kept if word.startswith("_")], (name, node.name))
                known = kept | set(tops) | set(imported(tree)) | set(OWN_OF_PYTHON)
                used = {part.id for part in ast.walk(node) if isinstance(part, ast.Name)}
                self.assertLessEqual(used, known, (name, node.name))

    def test_methods_of_python(self):
        for name, node in self.nodes(ast.Call):
            if isinstance(node.func, ast.Attribute):
                self.assertIn(node.func.attr, METHODS, (name, node.lineno))

    def test_defs_are_plain(self):
        for name, node in self.nodes(ast.FunctionDef):
            self.assertFalse(node.decorator_list or node.args.vararg or node.args.kwarg or node.args.kwonlyargs,
                             (name, node.name))

    def test_the_interface_stands_in_its_own_file_alone(self):
        places = [(name, [arg.arg for arg in node.args.args], node.args.defaults)
                  for name, node in self.nodes(ast.FunctionDef) if node.name == "answers"]
        self.assertEqual(places, [("rounds.py", ["calls"], [])])
