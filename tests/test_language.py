"""The package's files against some of the rules of LANGUAGE.md; the others are for a reader to check."""

import ast
import builtins
import os
import re
import unittest

PACKAGE = os.path.join(os.path.dirname(os.path.dirname(os.path.abspath(__file__))), "recut")

NODES = (
    ast.Module, ast.ImportFrom, ast.alias, ast.FunctionDef, ast.arguments, ast.arg, ast.ClassDef, ast.Lambda,
    ast.Assign, ast.AugAssign, ast.If, ast.While, ast.For, ast.Return, ast.Break, ast.Continue, ast.Pass, ast.Raise,
    ast.Try, ast.ExceptHandler, ast.Expr, ast.Constant, ast.List, ast.Tuple, ast.Dict, ast.BinOp, ast.UnaryOp,
    ast.BoolOp, ast.Compare, ast.IfExp, ast.Call, ast.keyword, ast.Attribute, ast.Subscript, ast.Slice, ast.ListComp,
    ast.comprehension, ast.JoinedStr, ast.FormattedValue, ast.Name, ast.expr_context, ast.operator, ast.unaryop,
    ast.boolop, ast.cmpop,
)
OWN_NAMES = set(
    "len range enumerate zip min max sum abs sorted reversed int str bool list tuple dict set isinstance ord repr any"
    " all divmod Exception ValueError KeyError IndexError LookupError ZeroDivisionError StopIteration".split()
)
METHODS = set(
    "append clear copy count endswith extend find get index insert isalnum isalpha isdigit islower isspace isupper"
    " items join keys ljust lower lstrip partition pop remove replace reverse rfind rjust rpartition rsplit rstrip"
    " setdefault split splitlines startswith strip update upper values zfill bit_length __init__".split()
)
WORDS = re.compile(
    r"\b(type|typing|typing_extensions|enum|Enum|IntEnum|StrEnum|Flag|IntFlag|Generic|Protocol|ABC|ABCMeta|namedtuple"
    r"|NamedTuple|TypedDict|TYPE_CHECKING|abstractmethod|register|mro|elements|open|input)\b"
    r"|dataclass|overload|contextmanager"
)

KEYWORDS = {
    "sorted": {"key", "reverse"}, "min": {"key", "default"}, "max": {"key", "default"}, "sum": {"start"},
    "enumerate": {"start"}, "zip": {"strict"},
}
WALKED = ("zip", "enumerate", "reversed", "range", "items", "keys", "values")
WALKERS = ("list", "tuple", "dict", "sorted", "sum", "any", "all", "enumerate", "zip", "min", "max")


def files():
    return sorted(name for name in os.listdir(PACKAGE) if name != "__pycache__")


def text_of(name):
    with open(os.path.join(PACKAGE, name), encoding="utf-8", newline="") as file:
        return file.read()


def bound_names(tree):
    names = set()
    for node in ast.walk(tree):
        if isinstance(node, (ast.FunctionDef, ast.ClassDef)):
            names.add(node.name)
        elif isinstance(node, ast.arg):
            names.add(node.arg)
        elif isinstance(node, ast.alias):
            names.add(node.asname or node.name)
        elif isinstance(node, ast.Name) and isinstance(node.ctx, ast.Store):
            names.add(node.id)
    return names


def top_names(node):
    """The names that a statement of a file's top binds."""
    if isinstance(node, (ast.FunctionDef, ast.ClassDef)):
        return [node.name]
    if isinstance(node, ast.ImportFrom):
        return [one.asname or one.name for one in node.names]
    return sorted(bound_names(node))


def called_name(node):
    return node.func.id if isinstance(node.func, ast.Name) else getattr(node.func, "attr", None)


def each():
    for name in files():
        text = text_of(name)
        yield name, text, ast.parse(text)


class LanguageTest(unittest.TestCase):
    def test_files(self):
        self.assertIn("__init__.py", files())
        for name in files():
            self.assertRegex(name, r"^(__init__|[a-z][a-z0-9_]*)\.py$")

    def test_signs_and_sizes(self):
        for name, text, tree in each():
            self.assertRegex(text, r"\A[ -~\n]*\Z", name)
            lines = text.split("\n")
            self.assertLessEqual(len(lines), 400)
            self.assertLessEqual(max(len(line) for line in lines), 120, name)
            for node in ast.walk(tree):
                if isinstance(node, ast.FunctionDef):
                    self.assertLessEqual(node.end_lineno - node.lineno + 1, 40)

    def test_words(self):
        for name, text, tree in each():
            self.assertIsNone(WORDS.search(text), name)

    def test_statements_and_expressions(self):
        for name, text, tree in each():
            for node in ast.walk(tree):
                self.assertIsInstance(node, NODES, name)
                self.assertNotIsInstance(node, (ast.Div, ast.MatMult))
                if isinstance(node, ast.Constant):
                    self.assertIsInstance(node.value, (int, str, type(None)))
                if isinstance(node, ast.Assign):
                    self.assertEqual(len(node.targets), 1)
                    self.assertNotIsInstance(node.targets[0], (ast.Tuple, ast.List))
                if isinstance(node, (ast.For, ast.While)):
                    self.assertEqual(node.orelse, [])
                if isinstance(node, ast.ListComp):
                    self.assertEqual(len(node.generators), 1)
                    self.assertLessEqual(len(node.generators[0].ifs), 1)
                if isinstance(node, ast.Expr) and node is not tree.body[0]:
                    self.assertIsInstance(node.value, ast.Call)

    def test_imports(self):
        for name, text, tree in each():
            for node in ast.walk(tree):
                if isinstance(node, ast.ImportFrom):
                    self.assertIn(node, tree.body)
                    self.assertEqual(node.level, 0)
                    folder, module = node.module.split(".")
                    self.assertEqual(folder, "recut")
                    source = ast.parse(text_of(module + ".py"))
                    defined = [one.name for one in source.body if isinstance(one, (ast.FunctionDef, ast.ClassDef))]
                    for one in node.names:
                        self.assertIn(one.name, defined)

    def test_names(self):
        for name, text, tree in each():
            bound = bound_names(tree) - {"__init__"}
            self.assertEqual(bound & set(dir(builtins)), set(), name)
            for one in bound:
                self.assertRegex(one, r"^[A-Za-z][A-Za-z0-9_]*$", name)
            for node in ast.walk(tree):
                if isinstance(node, ast.Name) and isinstance(node.ctx, ast.Load):
                    self.assertIn(node.id, bound | OWN_NAMES, name)

    def test_methods(self):
        for name, text, tree in each():
            for node in ast.walk(tree):
                if isinstance(node, ast.Call) and isinstance(node.func, ast.Attribute):
                    self.assertIn(node.func.attr, METHODS, name)

    def test_plain_parameters(self):
        for name, text, tree in each():
            for node in ast.walk(tree):
                if isinstance(node, (ast.FunctionDef, ast.ClassDef)):
                    self.assertEqual(node.decorator_list, [], name)
                if isinstance(node, ast.arguments):
                    self.assertIsNone(node.vararg)
                    self.assertIsNone(node.kwarg)
                    self.assertEqual(node.posonlyargs + node.kwonlyargs, [])
                    for default in node.defaults:
                        self.assertIsInstance(default, ast.Constant)

    def test_each_name_of_a_files_top_once_and_no_local_like_it(self):
        for name, text, tree in each():
            top = [one for node in tree.body for one in top_names(node)]
            self.assertEqual(len(set(top)), len(top), name)
            for node in tree.body:
                if isinstance(node, ast.FunctionDef):
                    inner = ast.Module(body=[node.args] + node.body, type_ignores=[])
                    self.assertEqual(bound_names(inner) & set(top), set(), (name, node.name))

    def test_no_two_files_draw_from_one_another(self):
        drawn = {}
        for name, text, tree in each():
            froms = [node.module for node in ast.walk(tree) if isinstance(node, ast.ImportFrom)]
            drawn[name[:-3]] = set(module.split(".")[1] for module in froms)
        while drawn:
            free = [name for name in drawn if not drawn[name]]
            self.assertNotEqual(free, [], drawn)
            drawn = {name: drawn[name] - set(free) for name in drawn if name not in free}

    def test_is_and_raise(self):
        for name, text, tree in each():
            for node in ast.walk(tree):
                if isinstance(node, ast.Compare):
                    for sign, other in zip(node.ops, node.comparators):
                        if isinstance(sign, (ast.Is, ast.IsNot)):
                            self.assertIsInstance(other, ast.Constant)
                            self.assertIn(str(other.value), ("None", "True", "False"))
                if isinstance(node, ast.Raise):
                    self.assertIsInstance(node.exc, ast.Call)

    def test_pythons_own_are_called_with_few_keywords(self):
        for name, text, tree in each():
            called = {id(node.func) for node in ast.walk(tree) if isinstance(node, ast.Call)}
            for node in ast.walk(tree):
                if isinstance(node, ast.Call) and isinstance(node.func, ast.Name):
                    words = set(keyword.arg for keyword in node.keywords)
                    if node.func.id in OWN_NAMES:
                        self.assertEqual(words - KEYWORDS.get(node.func.id, set()), set(), name)
                elif isinstance(node, ast.Call):
                    self.assertEqual(node.keywords, [], name)
                if isinstance(node, ast.Name) and node.id in dir(builtins) and node.id[0].islower():
                    self.assertIn(id(node), called, (name, node.id))

    def test_walked_at_once(self):
        for name, text, tree in each():
            walked = set()
            for node in ast.walk(tree):
                if isinstance(node, (ast.For, ast.comprehension)):
                    walked.add(id(node.iter))
                if isinstance(node, ast.Call) and isinstance(node.func, ast.Name) and node.func.id in WALKERS:
                    walked.update(id(one) for one in node.args[:1])
            for node in ast.walk(tree):
                if isinstance(node, ast.Call) and called_name(node) in WALKED:
                    self.assertIn(id(node), walked, (name, node.lineno))

    def test_sets(self):
        for name, text, tree in each():
            held = set()
            for node in ast.walk(tree):
                if isinstance(node, ast.Call) and called_name(node) in ("sorted", "len") and not node.keywords:
                    held.update(id(one) for one in ast.walk(node.args[0]))
            for node in ast.walk(tree):
                if isinstance(node, ast.Call) and called_name(node) in ("set", "frozenset"):
                    self.assertIn(id(node), held, (name, node.lineno))

    def test_powers_and_texts(self):
        for name, text, tree in each():
            for node in ast.walk(tree):
                self.assertNotIsInstance(node, ast.Pow, name)
                if isinstance(node, ast.Constant) and isinstance(node.value, str):
                    self.assertNotIn("%", node.value)


if __name__ == "__main__":
    unittest.main()
