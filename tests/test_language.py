"""The package keeps to the part of Python that it is written in: what of it a test can see."""

import ast
import builtins
import os
import re
import unittest

TOP = os.path.dirname(os.path.dirname(os.path.abspath(__file__)))
PACKAGE = os.path.join(TOP, "lentshelf")

OWN_NAMES = """len range enumerate zip min max sum abs sorted reversed int str bool bytes list tuple dict set
isinstance ord repr any all divmod Exception ValueError TypeError KeyError IndexError LookupError ZeroDivisionError
ArithmeticError OverflowError RuntimeError NotImplementedError AttributeError StopIteration""".split()

OWN_METHODS = """append clear copy count endswith extend find get index insert isalnum isalpha isdigit islower isspace
isupper items join keys ljust lower lstrip partition pop remove replace reverse rfind rjust rpartition rsplit rstrip
setdefault split splitlines startswith strip update upper values zfill bit_length sort add discard __init__""".split()

WORDS_OUT = """type typing typing_extensions enum Enum IntEnum StrEnum Flag IntFlag Generic Protocol ABC ABCMeta
namedtuple NamedTuple TypedDict TYPE_CHECKING abstractmethod""".split()

NAMES_OUT = """register mro elements open input version_info with_traceback add_note attrgetter breakpoint builtins
compile copyright credits delattr dir eval exec exit gc getattr globals hasattr help id importlib license locals
methodcaller os quit setattr super type vars sys""".split()

NODES_OUT = (ast.With, ast.Global, ast.Nonlocal, ast.Yield, ast.YieldFrom, ast.Await, ast.AsyncFunctionDef,
             ast.AsyncFor, ast.AsyncWith, ast.GeneratorExp, ast.NamedExpr, ast.Match, ast.Div, ast.MatMult, ast.Import)


def package_files():
    return sorted([name for name in os.listdir(PACKAGE) if name != "__pycache__"])


def source(name):
    with open(os.path.join(PACKAGE, name), encoding="utf-8", newline="") as held:
        return held.read()


def drawn(tree):
    """Pairs of the module drawn from and the name drawn."""
    return [(node.module, alias.name) for node in tree.body if isinstance(node, ast.ImportFrom) for alias in node.names]


def defined(tree):
    """The names that a file's top binds itself."""
    told = set()
    for node in tree.body:
        if isinstance(node, (ast.FunctionDef, ast.ClassDef)):
            told.add(node.name)
        elif isinstance(node, ast.Assign):
            told.update([target.id for target in node.targets])
    return told


class TestLanguage(unittest.TestCase):
    def setUp(self):
        self.trees = {name: ast.parse(source(name)) for name in package_files()}

    def nodes(self):
        for name, tree in self.trees.items():
            for node in ast.walk(tree):
                yield f"{name}:{getattr(node, 'lineno', 0)}", node

    def test_the_folder_holds_plain_files_alone(self):
        self.assertIn("__init__.py", package_files())
        for name in package_files():
            self.assertTrue(re.fullmatch(r"__init__\.py|[a-z][a-z0-9_]*\.py", name), name)
            self.assertFalse(name != "__init__.py" and hasattr(builtins, name[:-3]), name)

    def test_signs_rows_and_sizes(self):
        for name in package_files():
            text = source(name)
            self.assertTrue(all([sign == "\n" or " " <= sign <= "~" for sign in text]), name)
            rows = text.split("\n")
            self.assertLessEqual(len(rows), 401, name)
            for at, row in enumerate(rows):
                self.assertLessEqual(len(row), 120, f"{name}:{at + 1}")
        for where, node in self.nodes():
            if isinstance(node, ast.FunctionDef):
                self.assertLessEqual(node.end_lineno - node.lineno + 1, 40, where)

    def test_words_that_stand_nowhere(self):
        for name in package_files():
            found = set(re.findall(r"[A-Za-z_0-9]+", source(name)))
            self.assertEqual(found & set(WORDS_OUT), set(), name)
            for part in ("dataclass", "overload", "contextmanager"):
                self.assertNotIn(part, source(name))

    def test_forms_that_are_out(self):
        for where, node in self.nodes():
            self.assertNotIsInstance(node, NODES_OUT, where)
            if isinstance(node, (ast.For, ast.While)):
                self.assertEqual(node.orelse, [], where)
            if isinstance(node, (ast.FunctionDef, ast.ClassDef)):
                self.assertEqual(node.decorator_list, [], where)
            if isinstance(node, ast.FormattedValue):
                self.assertIsNone(node.format_spec, where)
            if isinstance(node, ast.Constant):
                self.assertNotIsInstance(node.value, (float, complex), where)
                self.assertFalse(isinstance(node.value, str) and "%" in node.value, where)
            if isinstance(node, ast.BinOp) and isinstance(node.op, ast.Pow):
                self.assertIsInstance(node.right, ast.Constant, where)
            if isinstance(node, ast.Compare) and isinstance(node.ops[0], (ast.Is, ast.IsNot)):
                self.assertIn(getattr(node.comparators[0], "value", 0), (None, True, False), where)
            if isinstance(node, ast.arguments):
                self.assertEqual((node.vararg, node.kwarg, node.posonlyargs), (None, None, []), where)

    def test_names(self):
        own = {name for tree in self.trees.values() for name in defined(tree)}
        for where, node in self.nodes():
            if isinstance(node, ast.Name) and hasattr(builtins, node.id):
                self.assertIn(node.id, OWN_NAMES, where)
                self.assertIsInstance(node.ctx, ast.Load, where)
            names = [getattr(node, field, None) for field in ("id", "arg", "name", "attr")]
            for name in [name for name in names if isinstance(name, str)]:
                self.assertNotIn(name, NAMES_OUT, where)
                self.assertTrue(name == "__init__" or not name.startswith("_"), where)
                self.assertFalse(isinstance(node, ast.arg) and hasattr(builtins, name), where)
        self.assertEqual([name for name in sorted(own) if hasattr(builtins, name)], [])

    def test_no_local_is_called_like_a_class_or_an_import(self):
        for name, tree in self.trees.items():
            taken = {drawn_name for module, drawn_name in drawn(tree)}
            taken.update([node.name for node in tree.body if isinstance(node, ast.ClassDef)])
            for node in ast.walk(tree):
                if isinstance(node, ast.arg):
                    self.assertNotIn(node.arg, taken, name)
                if isinstance(node, ast.Name) and isinstance(node.ctx, ast.Store):
                    self.assertNotIn(node.id, taken, name)

    def test_methods_that_are_called(self):
        own = {node.name for where, node in self.nodes() if isinstance(node, ast.FunctionDef)}
        for where, node in self.nodes():
            if isinstance(node, ast.Call) and isinstance(node.func, ast.Attribute):
                self.assertTrue(node.func.attr in OWN_METHODS or node.func.attr in own, where)

    def test_methods_and_values_of_objects(self):
        methods, values = set(), set()
        for where, node in self.nodes():
            if isinstance(node, ast.ClassDef):
                methods.update([row.name for row in node.body if isinstance(row, ast.FunctionDef)])
                for row in node.body:
                    self.assertIsInstance(row, (ast.FunctionDef, ast.Expr), where)
            if isinstance(node, ast.Attribute) and isinstance(node.ctx, ast.Store):
                values.add(node.attr)
        self.assertEqual(methods & values, set())
        for where, node in self.nodes():
            if isinstance(node, ast.Attribute):
                self.assertIn(node.attr, methods | values | set(OWN_METHODS), where)

    def test_imports(self):
        draws = {}
        for name, tree in self.trees.items():
            rows = [node for node in ast.walk(tree) if isinstance(node, ast.ImportFrom)]
            self.assertTrue(all([node in tree.body for node in rows]), name)
            draws[name] = []
            for module, drawn_name in drawn(tree):
                package, dot, file = module.partition(".")
                self.assertEqual(package, "lentshelf", name)
                self.assertIn(drawn_name, defined(self.trees[file + ".py"]), name)
                draws[name].append(file + ".py")
        while draws:
            free = [name for name in draws if not [file for file in draws[name] if file in draws]]
            self.assertTrue(free, f"these draw from one another: {sorted(draws)}")
            for name in free:
                del draws[name]


if __name__ == "__main__":
    unittest.main()
