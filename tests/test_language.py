"""The package keeps to the small part of Python that it is written in."""

import ast
import builtins
import os
import re
import tokenize
import unittest

ROOT = os.path.dirname(os.path.dirname(os.path.abspath(__file__)))
PACKAGE = os.path.join(ROOT, "onlyrise")

STATEMENTS = (
    ast.Assign, ast.AugAssign, ast.If, ast.While, ast.For, ast.Return, ast.Break, ast.Continue,
    ast.Pass, ast.Raise, ast.Try, ast.Expr, ast.FunctionDef, ast.ClassDef, ast.ImportFrom,
)
EXPRESSIONS = (
    ast.Constant, ast.List, ast.Tuple, ast.Dict, ast.Set, ast.BinOp, ast.UnaryOp, ast.BoolOp,
    ast.Compare, ast.IfExp, ast.Call, ast.Attribute, ast.Subscript, ast.Slice, ast.ListComp,
    ast.JoinedStr, ast.FormattedValue, ast.Name, ast.Lambda,
)
OWN_NAMES = set(
    "len range enumerate zip min max sum abs sorted reversed int str bool list tuple dict set frozenset "
    "isinstance ord repr any all divmod Exception ValueError TypeError KeyError IndexError LookupError "
    "ZeroDivisionError ArithmeticError OverflowError RuntimeError NotImplementedError AttributeError "
    "StopIteration".split()
)
METHODS = set(
    "append clear copy count endswith extend find get index insert isalnum isalpha isdigit islower "
    "isspace isupper items join keys ljust lower lstrip partition pop remove replace reverse rfind rjust "
    "rpartition rsplit rstrip setdefault split splitlines startswith strip update upper values zfill "
    "bit_length".split()
)
DUNDERS = {"__init__", "__eq__", "__repr__", "__str__", "__len__"}
KEYWORDS = {
    "sorted": {"key", "reverse"}, "min": {"key", "default"}, "max": {"key", "default"},
    "sum": {"start"}, "enumerate": {"start"}, "zip": {"strict"},
}
WALKERS = set("list tuple dict sorted sum any all enumerate zip min max".split())
NEVER_WORDS = re.compile(
    r"\b(type|typing|typing_extensions|enum|Enum|IntEnum|StrEnum|Flag|IntFlag|Generic|Protocol|ABC|ABCMeta"
    r"|namedtuple|NamedTuple|TypedDict|TYPE_CHECKING|abstractmethod)\b|dataclass|overload|contextmanager"
)
NEVER_NAMES = set(
    "register mro elements open input version_info with_traceback add_note attrgetter breakpoint builtins "
    "compile copyright credits delattr dir eval exec exit gc getattr globals hasattr help id importlib "
    "license locals methodcaller os quit setattr super type vars sys chr".split()
)


def package_files():
    return sorted(name for name in os.listdir(PACKAGE) if name != "__pycache__")


def text_of(name):
    with open(os.path.join(PACKAGE, name), encoding="utf-8", newline="") as file:
        return file.read()


def trees():
    return [(name, ast.parse(text_of(name))) for name in package_files()]


def nodes(kind):
    return [(name, node) for name, tree in trees() for node in ast.walk(tree) if isinstance(node, kind)]


def imported_names(tree):
    return {alias.name for node in tree.body if isinstance(node, ast.ImportFrom) for alias in node.names}


def bound_names(node):
    for inner in ast.walk(node):
        if isinstance(inner, ast.arg):
            yield inner.arg
        elif isinstance(inner, ast.Name) and isinstance(inner.ctx, ast.Store):
            yield inner.id
        elif isinstance(inner, ast.ExceptHandler) and inner.name:
            yield inner.name


class Language(unittest.TestCase):
    def test_files(self):
        self.assertIn("__init__.py", package_files())
        for name in package_files():
            self.assertRegex(name, r"^([a-z][a-z0-9_]*|__init__|__main__)\.py$")
            self.assertNotIn(name[:-3], dir(builtins))
            self.assertNotRegex(name, r"^(tests?|testing|test_.*|site|conftest|.*customize)\.py$")

    def test_signs_and_size(self):
        for name in package_files():
            text = text_of(name)
            self.assertTrue(all(sign == "\n" or " " <= sign <= "~" for sign in text), name)
            self.assertNotRegex(text, NEVER_WORDS)
            lines = text.split("\n")
            self.assertLessEqual(len(lines), 400, name)
            self.assertLessEqual(max(len(line) for line in lines), 120, name)
        for name, node in nodes(ast.FunctionDef):
            self.assertLessEqual(node.end_lineno - node.lineno + 1, 40, (name, node.name))

    def test_percent_and_escapes_in_texts(self):
        for name in package_files():
            with open(os.path.join(PACKAGE, name), "rb") as file:
                texts = [token.string for token in tokenize.tokenize(file.readline) if token.type == tokenize.STRING]
            for text in texts:
                self.assertNotIn("%", text)
                self.assertNotRegex(text, r"\\[^nt\\'\"]")

    def test_statements_and_expressions(self):
        for name, node in nodes((ast.stmt, ast.expr)):
            self.assertIsInstance(node, STATEMENTS + EXPRESSIONS, (name, node.lineno))
        for name, node in nodes(ast.Assign):
            self.assertEqual(len(node.targets), 1, (name, node.lineno))
        for name, node in nodes((ast.For, ast.While)):
            self.assertEqual(node.orelse, [], (name, node.lineno))
        for name, node in nodes(ast.Try):
            self.assertEqual(node.finalbody, [], (name, node.lineno))
        for name, node in nodes(ast.BinOp):
            self.assertNotIsInstance(node.op, (ast.Div, ast.MatMult), (name, node.lineno))
        for name, node in nodes(ast.ListComp):
            self.assertEqual(len(node.generators), 1, (name, node.lineno))
            self.assertLessEqual(len(node.generators[0].ifs), 1, (name, node.lineno))
        for name, node in nodes(ast.FormattedValue):
            self.assertIsInstance(node.value, ast.Name, (name, node.lineno))
            self.assertIsNone(node.format_spec, (name, node.lineno))
        for name, node in nodes(ast.Constant):
            self.assertNotIsInstance(node.value, (float, bytes, complex), (name, node.lineno))
            self.assertIsNot(node.value, ..., (name, node.lineno))

    def test_top_of_a_file(self):
        for name, tree in trees():
            self.assertIsNotNone(ast.get_docstring(tree), name)
            bound = []
            for node in tree.body[1:]:
                self.assertIsInstance(node, (ast.ImportFrom, ast.FunctionDef, ast.ClassDef, ast.Assign), name)
                if isinstance(node, ast.Assign):
                    bound.append(node.targets[0].id)
                elif isinstance(node, ast.ImportFrom):
                    bound.extend(alias.name for alias in node.names)
                else:
                    bound.append(node.name)
            self.assertEqual(len(bound), len(set(bound)), name)

    def test_imports(self):
        drawn = {}
        for name, tree in trees():
            drawn[name[:-3]] = []
            for node in ast.walk(tree):
                if not isinstance(node, ast.ImportFrom):
                    continue
                self.assertIn(node, tree.body, name)
                self.assertEqual(node.level, 0, name)
                self.assertRegex(node.module, r"^onlyrise\.[a-z_]+$")
                source = node.module.split(".")[1]
                drawn[name[:-3]].append(source)
                defined = [inner.name if hasattr(inner, "name") else inner.targets[0].id
                           for inner in ast.parse(text_of(source + ".py")).body
                           if isinstance(inner, (ast.FunctionDef, ast.ClassDef, ast.Assign))]
                for alias in node.names:
                    self.assertIsNone(alias.asname, name)
                    self.assertIn(alias.name, defined, name)
                    used = [inner.id for inner in ast.walk(tree) if isinstance(inner, ast.Name)]
                    self.assertIn(alias.name, used, name)
        while drawn:
            free = [name for name in drawn if not any(source in drawn for source in drawn[name])]
            self.assertTrue(free, "files draw from one another")
            for name in free:
                del drawn[name]

    def test_functions(self):
        for name, node in nodes((ast.FunctionDef, ast.Lambda)):
            arguments = node.args
            self.assertFalse(arguments.vararg or arguments.kwarg or arguments.kwonlyargs or arguments.posonlyargs)
            self.assertFalse(getattr(node, "decorator_list", []), name)
        for name, node in nodes(ast.ClassDef):
            self.assertLessEqual(len(node.bases), 1, node.name)
            self.assertFalse(node.decorator_list or node.keywords, node.name)
            for inner in node.body:
                self.assertIsInstance(inner, (ast.FunctionDef, ast.Pass), node.name)

    def test_names(self):
        for name, tree in trees():
            imported = imported_names(tree)
            classes = {node.name for node in tree.body if isinstance(node, ast.ClassDef)}
            for node in tree.body:
                if not isinstance(node, (ast.FunctionDef, ast.ClassDef)):
                    continue
                for word in bound_names(node):
                    self.assertNotIn(word, dir(builtins), name)
                    self.assertNotIn(word, imported | classes, name)
                    self.assertRegex(word, r"^[A-Za-z][A-Za-z0-9_]*$", name)
        for name, node in nodes((ast.FunctionDef, ast.ClassDef)):
            self.assertNotIn(node.name, set(dir(builtins)) - {"__init__"} | NEVER_NAMES, name)
            self.assertTrue(not node.name.startswith("_") or node.name in DUNDERS, node.name)
        for name, node in nodes(ast.Name):
            self.assertNotIn(node.id, NEVER_NAMES, (name, node.lineno))
            if node.id in dir(builtins):
                self.assertIn(node.id, OWN_NAMES, (name, node.lineno))

    def test_attributes(self):
        own = {node.name for name, node in nodes(ast.FunctionDef)}
        stored = {node.attr for name, node in nodes(ast.Attribute) if isinstance(node.ctx, ast.Store)}
        methods = {inner.name for name, node in nodes(ast.ClassDef) for inner in node.body
                   if isinstance(inner, ast.FunctionDef)}
        self.assertFalse(stored & methods)
        for name, node in nodes(ast.Attribute):
            self.assertNotIn(node.attr, {"format", "format_map", "mro"}, (name, node.lineno))
            self.assertIn(node.attr, METHODS | own | stored, (name, node.lineno))

    def test_calls(self):
        for name, node in nodes(ast.Call):
            if node.keywords:
                self.assertIsInstance(node.func, ast.Name, (name, node.lineno))
                if node.func.id in dir(builtins):
                    for keyword in node.keywords:
                        self.assertIn(keyword.arg, KEYWORDS.get(node.func.id, ()), (name, node.lineno))

    def test_is_beside_none_and_truths(self):
        for name, node in nodes(ast.Compare):
            for sign, side in zip(node.ops, node.comparators):
                if isinstance(sign, (ast.Is, ast.IsNot)):
                    self.assertIsInstance(side, ast.Constant, (name, node.lineno))
                    self.assertIn(side.value, (None, True, False), (name, node.lineno))

    def test_errors_taken(self):
        for name, node in nodes(ast.ExceptHandler):
            self.assertIsInstance(node.type, ast.Name, (name, node.lineno))
            self.assertNotIn(node.type.id, ("Exception", "TypeError"), (name, node.lineno))
        for name, node in nodes(ast.Raise):
            self.assertIsInstance(node.exc, ast.Call, (name, node.lineno))

    def test_walked_at_once(self):
        walked = set()
        for name, node in nodes((ast.For, ast.comprehension)):
            walked.add((name, node.iter.lineno, node.iter.col_offset))
        for name, node in nodes(ast.Call):
            if isinstance(node.func, ast.Name) and node.func.id in WALKERS and node.args:
                first = node.args if node.func.id in ("zip", "min", "max") else node.args[:1]
                walked.update((name, inner.lineno, inner.col_offset) for inner in first)
        for name, node in nodes(ast.Call):
            word = node.func.id if isinstance(node.func, ast.Name) else getattr(node.func, "attr", "")
            if word in ("zip", "enumerate", "reversed", "range", "items", "keys", "values"):
                self.assertIn((name, node.lineno, node.col_offset), walked)

    def test_sets_are_not_kept(self):
        beside = set()
        for name, node in nodes((ast.Call, ast.Compare)):
            if isinstance(node, ast.Compare):
                beside.update((name, inner.lineno, inner.col_offset) for inner in [node.left] + node.comparators)
            elif isinstance(node.func, ast.Name) and node.func.id in ("sorted", "len") and node.args:
                beside.add((name, node.args[0].lineno, node.args[0].col_offset))
        for name, node in nodes(ast.Call):
            if isinstance(node.func, ast.Name) and node.func.id in ("set", "frozenset"):
                self.assertIn((name, node.lineno, node.col_offset), beside)


if __name__ == "__main__":
    unittest.main()
