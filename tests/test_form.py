"""The package's files keep to the small part of Python that they are written in."""

import ast
import builtins
import os
import re
import unittest

ROOT = os.path.dirname(os.path.dirname(os.path.abspath(__file__)))
PACKAGE = os.path.join(ROOT, "packdraft")

NODES = """Module FunctionDef ClassDef Return Assign AugAssign For While If Raise Try Expr Break Continue Pass
ImportFrom BoolOp BinOp UnaryOp Lambda IfExp Dict List Tuple ListComp Compare Call Attribute Subscript Slice Name
Constant JoinedStr FormattedValue comprehension arguments arg keyword alias ExceptHandler Load Store And Or Not USub
UAdd Invert Add Sub Mult FloorDiv Mod Pow BitAnd BitOr BitXor LShift RShift Eq NotEq Lt LtE Gt GtE In NotIn Is
IsNot""".split()
OWN_OF_PYTHON = """len range enumerate zip min max sum abs sorted reversed int str bool list tuple dict set frozenset
isinstance ord repr any all divmod Exception ValueError KeyError IndexError LookupError ZeroDivisionError
ArithmeticError OverflowError RuntimeError NotImplementedError StopIteration""".split()
METHODS = """append clear copy count endswith extend find get index insert isalnum isalpha isdigit islower isspace
isupper items join keys ljust lower lstrip partition pop remove replace reverse rfind rjust rpartition rsplit rstrip
setdefault split splitlines startswith strip update upper values zfill bit_length""".split()
TAKEN_VALUES = {name for kind in (str, int, list, dict, set, bytes, tuple) for name in dir(kind)} - set(
    "count index title find get join lower upper split strip copy add".split()
)
NEVER = """register mro elements open input version_info with_traceback add_note attrgetter breakpoint builtins compile
copyright credits delattr dir eval exec exit gc getattr globals hasattr help id importlib license locals methodcaller os
quit setattr super type vars sys""".split()
WORDS = """type typing typing_extensions enum Enum IntEnum StrEnum Flag IntFlag Generic Protocol ABC ABCMeta namedtuple
NamedTuple TypedDict TYPE_CHECKING abstractmethod""".split()
TWO_UNDERSCORES = ("__init__", "__eq__", "__repr__", "__str__", "__len__")


def sources():
    for name in sorted(os.listdir(PACKAGE)):
        if name != "__pycache__":
            with open(os.path.join(PACKAGE, name), encoding="utf-8") as file:
                yield name, file.read()


TREES = [(name, ast.parse(text)) for name, text in sources()]


def nodes(*kinds):
    return [(name, node) for name, tree in TREES for node in ast.walk(tree) if isinstance(node, kinds)]


def parents():
    """What each node stands in."""
    return {id(part): node for _, node in nodes(ast.AST) for part in ast.iter_child_nodes(node)}


def called_name(node):
    if isinstance(node, ast.Call):
        return node.func.attr if isinstance(node.func, ast.Attribute) else getattr(node.func, "id", "")
    return ""


def own_methods():
    return {part.name for _, node in nodes(ast.ClassDef) for part in node.body if hasattr(part, "name")}


class Files(unittest.TestCase):
    def test_names_and_signs(self):
        for name, text in sources():
            with self.subTest(file=name):
                self.assertRegex(name, r"^[a-z0-9_]+\.py$")
                self.assertRegex(text, r"\A[ -~\n]*\Z")
                self.assertLessEqual(text.count("\n"), 400)
                self.assertLessEqual(max(len(row) for row in text.split("\n")), 120)

    def test_words(self):
        for name, text in sources():
            found = set(re.findall(r"\w+", text)) & set(WORDS)
            self.assertEqual((name, found), (name, set()))
            self.assertNotRegex(text, "dataclass|overload|contextmanager")

    def test_nothing_but_definitions_at_the_top(self):
        allowed = (ast.ImportFrom, ast.FunctionDef, ast.ClassDef, ast.Assign)
        for name, tree in TREES:
            bound = []
            for place, node in enumerate(tree.body):
                docstring = place == 0 and isinstance(node, ast.Expr) and isinstance(node.value, ast.Constant)
                self.assertTrue(docstring or isinstance(node, allowed), (name, node.lineno if place else 1))
                if isinstance(node, (ast.FunctionDef, ast.ClassDef)):
                    bound.append(node.name)
                elif isinstance(node, ast.Assign):
                    bound.append(node.targets[0].id)
            self.assertEqual(len(bound), len(set(bound)), name)


class Imports(unittest.TestCase):
    def test_own_files_alone_and_in_no_circle(self):
        draws = {}
        for name, tree in TREES:
            draws[name] = []
            for node in tree.body:
                if isinstance(node, ast.ImportFrom):
                    self.assertEqual(node.level, 0)
                    package, file = node.module.split(".")
                    self.assertEqual(package, "packdraft")
                    self.assertTrue(all(each.name != "*" and each.asname is None for each in node.names))
                    draws[name].append(file + ".py")
        while draws:
            free = [name for name in draws if not any(other in draws for other in draws[name])]
            self.assertTrue(free, draws)
            draws = {name: draws[name] for name in draws if name not in free}


class Language(unittest.TestCase):
    def test_kinds_of_nodes(self):
        for name, node in nodes(ast.AST):
            self.assertIn(type(node).__name__, NODES, (name, getattr(node, "lineno", 0)))

    def test_functions(self):
        for name, node in nodes(ast.FunctionDef):
            where = (name, node.name)
            self.assertLessEqual(node.end_lineno - node.lineno + 1, 40, where)
            self.assertEqual(node.decorator_list, [], where)
            wanted = node.args
            self.assertEqual((wanted.vararg, wanted.kwarg, wanted.kwonlyargs, wanted.posonlyargs), (None, None, [], []))
            self.assertIsNone(node.returns, where)
            self.assertTrue(all(each.annotation is None for each in wanted.args), where)

    def test_classes(self):
        for name, node in nodes(ast.ClassDef):
            self.assertEqual(node.decorator_list, [])
            self.assertLessEqual(len(node.bases), 1)
            for part in node.body:
                text = isinstance(part, ast.Expr) and isinstance(part.value, ast.Constant)
                self.assertTrue(text or isinstance(part, ast.FunctionDef), (name, part.lineno))

    def test_statements(self):
        for name, node in nodes(ast.Assign):
            self.assertEqual(len(node.targets), 1)
            self.assertNotIsInstance(node.targets[0], (ast.Tuple, ast.List), (name, node.lineno))
        for name, node in nodes(ast.For, ast.While):
            self.assertEqual(node.orelse, [], (name, node.lineno))
        for name, node in nodes(ast.ListComp):
            self.assertTrue(len(node.generators) == 1 and len(node.generators[0].ifs) < 2, (name, node.lineno))
        for name, node in nodes(ast.Constant):
            self.assertNotIsInstance(node.value, (float, bytes, complex), (name, node.lineno))
            self.assertNotIn("%", str(node.value))

    def test_names(self):
        pythons = set(dir(builtins))
        for name, node in nodes(ast.Name, ast.arg, ast.FunctionDef, ast.ClassDef):
            word = getattr(node, "id", None) or getattr(node, "arg", None) or node.name
            where = (name, word, node.lineno)
            self.assertTrue(word in TWO_UNDERSCORES or not word.startswith("_"), where)
            self.assertNotIn(word, NEVER, where)
            if isinstance(node, ast.Name) and isinstance(node.ctx, ast.Load):
                self.assertTrue(word not in pythons or word in OWN_OF_PYTHON, where)
            else:
                self.assertNotIn(word, pythons, where)

    def test_no_local_is_called_like_a_class_or_an_import(self):
        for name, tree in TREES:
            taken = {each.name for node in tree.body if isinstance(node, ast.ImportFrom) for each in node.names}
            taken |= {node.name for node in tree.body if isinstance(node, ast.ClassDef)}
            for node in ast.walk(tree):
                word = node.arg if isinstance(node, ast.arg) else getattr(node, "id", "")
                if isinstance(node, ast.arg) or isinstance(getattr(node, "ctx", None), ast.Store):
                    self.assertNotIn(word, taken, (name, node.lineno))

    def test_plain_values_at_the_top(self):
        for name, tree in TREES:
            functions = {node.name for node in tree.body if isinstance(node, ast.FunctionDef)}
            for node in tree.body:
                if isinstance(node, ast.Assign):
                    for part in ast.walk(node.value):
                        plain = isinstance(part, (ast.Constant, ast.Tuple, ast.UnaryOp, ast.USub, ast.Load))
                        known = isinstance(part, ast.Name) and part.id in functions
                        self.assertTrue(plain or known, (name, node.lineno))

    def test_sets_are_not_kept(self):
        above = parents()
        for name, node in nodes(ast.Call):
            if called_name(node) == "set":
                holder = above[id(node)]
                while isinstance(holder, ast.BinOp):
                    holder = above[id(holder)]
                right = isinstance(holder, ast.Compare) or called_name(holder) in ("sorted", "len")
                self.assertTrue(right, (name, node.lineno))

    def test_walked_at_once(self):
        above = parents()
        for name, node in nodes(ast.Call):
            if called_name(node) in ("zip", "enumerate", "reversed", "range", "items", "keys", "values"):
                holder = above[id(node)]
                right = isinstance(holder, (ast.For, ast.comprehension)) and holder.iter is node
                first_in = called_name(holder) in ("list", "tuple", "dict", "sorted", "sum", "any", "all", "enumerate")
                self.assertTrue(right or first_in and holder.args[0] is node, (name, node.lineno))

    def test_keywords(self):
        allowed = {"sorted": ("key", "reverse"), "min": ("key", "default"), "max": ("key", "default"),
                   "sum": ("start",), "enumerate": ("start",), "zip": ("strict",)}
        for name, node in nodes(ast.Call):
            if called_name(node) in dir(builtins):
                for each in node.keywords:
                    self.assertIn(each.arg, allowed.get(called_name(node), ()), (name, node.lineno))

    def test_methods_and_values(self):
        methods = own_methods()
        called = {id(node.func) for _, node in nodes(ast.Call)}
        for name, node in nodes(ast.Attribute):
            where = (name, node.attr, node.lineno)
            self.assertNotIn(node.attr, NEVER, where)
            if id(node) not in called:
                self.assertNotIn(node.attr, TAKEN_VALUES | methods, where)

    def test_called_methods(self):
        methods = own_methods()
        for name, node in nodes(ast.Call):
            if isinstance(node.func, ast.Attribute):
                self.assertIn(node.func.attr, methods | set(METHODS), (name, node.lineno))


if __name__ == "__main__":
    unittest.main()
