"""The rules of the language that can be read off the package's files."""

import ast
import builtins
import os
import re
import unittest

FOLDER = os.path.join(os.path.dirname(os.path.dirname(os.path.abspath(__file__))), "roomtables")

BUILTINS = set(
    "len range enumerate zip min max sum abs sorted reversed int str bool bytes list tuple dict set frozenset isinstance "
    "ord repr any all divmod Exception ValueError TypeError KeyError IndexError LookupError ZeroDivisionError "
    "ArithmeticError OverflowError RuntimeError NotImplementedError AttributeError StopIteration NotImplemented iter next "
    "super property staticmethod classmethod True False None".split()
)
METHODS = set(
    "append clear copy count endswith extend find get index insert isalnum isalpha isdigit islower isspace isupper items "
    "join keys ljust lower lstrip partition pop remove replace reverse rfind rjust rpartition rsplit rstrip setdefault "
    "split splitlines startswith strip update upper values zfill bit_length title capitalize swapcase casefold center "
    "expandtabs removeprefix removesuffix rindex isascii isdecimal isnumeric istitle isidentifier isprintable sort add "
    "discard __init__".split()
)
BARRED_WORDS = re.compile(
    r"\b(type|typing|typing_extensions|enum|Enum|IntEnum|StrEnum|Flag|IntFlag|Generic|Protocol|ABC|ABCMeta|namedtuple|"
    r"NamedTuple|TypedDict|TYPE_CHECKING|abstractmethod)\b|dataclass|overload|contextmanager"
)
BARRED_NAMES = set(
    "register mro elements open input version_info with_traceback add_note attrgetter breakpoint builtins compile "
    "copyright credits delattr dir eval exec exit gc getattr globals hasattr help id importlib license locals "
    "methodcaller os quit setattr type vars sys".split()
)
STATEMENTS = (
    ast.Assign, ast.AugAssign, ast.AnnAssign, ast.If, ast.While, ast.For, ast.Return, ast.Break, ast.Continue, ast.Pass,
    ast.Raise, ast.Assert, ast.Delete, ast.Nonlocal, ast.Match, ast.With, ast.Try, ast.Expr, ast.FunctionDef, ast.ClassDef,
    ast.ImportFrom,
)


def files():
    """The package's files: name, text and tree."""
    told = []
    for name in sorted(os.listdir(FOLDER)):
        if name != "__pycache__":
            with open(os.path.join(FOLDER, name), encoding="utf-8", newline="") as file:
                text = file.read()
            told.append((name, text, ast.parse(text)))
    return told


def functions(tree):
    return [node for node in ast.walk(tree) if isinstance(node, (ast.FunctionDef, ast.Lambda))]


def bound(tree):
    """The names that a tree binds, anywhere in it."""
    names = [node.id for node in ast.walk(tree) if isinstance(node, ast.Name) and not isinstance(node.ctx, ast.Load)]
    names += [node.arg for node in ast.walk(tree) if isinstance(node, ast.arg)]
    names += [node.name for node in ast.walk(tree) if isinstance(node, (ast.FunctionDef, ast.ClassDef))]
    names += [node.name for node in ast.walk(tree) if isinstance(node, ast.ExceptHandler) and node.name]
    return names


def top_names(tree):
    """The names that a file binds at module level, imports apart."""
    names = []
    for node in tree.body:
        if isinstance(node, (ast.FunctionDef, ast.ClassDef)):
            names.append(node.name)
        if isinstance(node, ast.Assign):
            names += [target.id for target in node.targets]
    return names


def imports(tree):
    return [node for node in ast.walk(tree) if isinstance(node, (ast.Import, ast.ImportFrom))]


class Language(unittest.TestCase):
    def setUp(self):
        self.files = files()

    def test_files(self):
        for name, text, tree in self.files:
            self.assertRegex(name, r"^[a-z][a-z0-9_]*\.py$|^__init__\.py$|^__main__\.py$")
            self.assertRegex(text, r"^[ -~\n]*$", name)
            lines = text.split("\n")
            self.assertLessEqual(len(lines), 401, name)
            self.assertLessEqual(max(len(line) for line in lines), 120, name)

    def test_functions_are_short(self):
        for name, text, tree in self.files:
            for node in functions(tree):
                self.assertLessEqual(node.end_lineno - node.lineno + 1, 40, (name, node.lineno))

    def test_imports(self):
        defined = {name[:-3]: top_names(tree) for name, text, tree in self.files}
        wanted = {}
        for name, text, tree in self.files:
            wanted[name[:-3]] = []
            for node in imports(tree):
                self.assertIsInstance(node, ast.ImportFrom, name)
                self.assertIn(node, tree.body, name)
                package, _, module = node.module.partition(".")
                self.assertEqual((package, node.level), ("roomtables", 0), name)
                for alias in node.names:
                    self.assertIn(alias.name, defined[module], name)
                wanted[name[:-3]].append(module)
        for module in wanted:
            reached = list(wanted[module])
            for one in reached:
                reached += [other for other in wanted[one] if other not in reached]
            self.assertNotIn(module, reached)

    def test_module_level(self):
        for name, text, tree in self.files:
            for at, node in enumerate(tree.body):
                docstring = at == 0 and isinstance(node, ast.Expr)
                kinds = (ast.ImportFrom, ast.FunctionDef, ast.ClassDef, ast.Assign)
                self.assertTrue(docstring or isinstance(node, kinds), (name, node.lineno))
            names = top_names(tree) + [alias.name for node in imports(tree) for alias in node.names]
            self.assertEqual(len(names), len(set(names)), name)

    def test_words_and_names(self):
        for name, text, tree in self.files:
            self.assertIsNone(BARRED_WORDS.search(text), name)
            for one in bound(tree):
                self.assertNotIn(one, BARRED_NAMES, name)
                self.assertTrue(not one.startswith("_") or one == "__init__", (name, one))
                self.assertNotIn(one, dir(builtins) if one != "__init__" else [], name)

    def test_locals_hide_no_import_and_no_class(self):
        for name, text, tree in self.files:
            top = [alias.name for node in imports(tree) for alias in node.names]
            top += [node.name for node in tree.body if isinstance(node, ast.ClassDef)]
            for node in functions(tree):
                inner = bound(node)
                if isinstance(node, ast.FunctionDef):
                    inner.remove(node.name)
                self.assertFalse(set(inner) & set(top), (name, node.lineno))

    def test_names_that_are_read(self):
        for name, text, tree in self.files:
            known = set(bound(tree)) | {alias.name for node in imports(tree) for alias in node.names} | BUILTINS
            for node in ast.walk(tree):
                if isinstance(node, ast.Name):
                    self.assertIn(node.id, known, (name, node.lineno))

    def test_methods(self):
        own = set()
        for name, text, tree in self.files:
            for node in ast.walk(tree):
                if isinstance(node, ast.ClassDef):
                    own |= {one.name for one in node.body if isinstance(one, ast.FunctionDef)}
        for name, text, tree in self.files:
            for node in ast.walk(tree):
                if isinstance(node, ast.Call) and isinstance(node.func, ast.Attribute):
                    self.assertIn(node.func.attr, METHODS | own, (name, node.lineno))

    def test_no_name_is_a_method_and_an_attribute(self):
        methods, attributes = set(), set()
        for name, text, tree in self.files:
            for node in ast.walk(tree):
                if isinstance(node, ast.ClassDef):
                    methods |= {one.name for one in node.body if isinstance(one, ast.FunctionDef)}
                if isinstance(node, ast.Attribute) and isinstance(node.ctx, ast.Store):
                    attributes.add(node.attr)
        self.assertFalse(methods & attributes)

    def test_tables_hold_no_tables(self):
        for name, text, tree in self.files:
            for node in tree.body:
                if isinstance(node, ast.Assign):
                    tables = [one for one in ast.walk(node.value) if isinstance(one, (ast.List, ast.Dict))]
                    self.assertLessEqual(len(tables), 1, (name, node.lineno))

    def test_statements_and_signs(self):
        for name, text, tree in self.files:
            for node in ast.walk(tree):
                if isinstance(node, ast.stmt):
                    self.assertIsInstance(node, STATEMENTS, (name, node.lineno))
                if isinstance(node, ast.BinOp):
                    self.assertNotIsInstance(node.op, (ast.Div, ast.MatMult), (name, node.lineno))
                    if isinstance(node.op, ast.Pow):
                        self.assertIn(getattr(node.right, "value", None), range(65), (name, node.lineno))
                if isinstance(node, ast.Constant):
                    self.assertIn(type(node.value), (int, str, bool, type(None)), (name, node.lineno))
                    self.assertNotIn("%", str(node.value), (name, node.lineno))
                if isinstance(node, ast.Compare):
                    for sign, other in zip(node.ops, node.comparators):
                        if isinstance(sign, (ast.Is, ast.IsNot)):
                            self.assertIn(getattr(other, "value", 0), (None, True, False), (name, node.lineno))


if __name__ == "__main__":
    unittest.main()
