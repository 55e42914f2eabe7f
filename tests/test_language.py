"""Some rules of LANGUAGE.md that can be seen in the text or the tree of a file, for all of the package."""

import ast
import builtins
import pathlib
import re
import unittest

PACKAGE = pathlib.Path(__file__).resolve().parent.parent / "leastmaker"
FILES = sorted(path for path in PACKAGE.rglob("*") if "__pycache__" not in path.parts)

# L8, without those that a later rule bars.
BUILTINS = set("""
len range enumerate zip min max sum abs sorted reversed int str bool bytes list tuple dict set isinstance ord repr any
all divmod iter next super property staticmethod classmethod Exception ValueError TypeError KeyError IndexError
LookupError ZeroDivisionError ArithmeticError OverflowError RuntimeError NotImplementedError AttributeError
StopIteration NotImplemented
""".split())
# L25, without those of bytes.
METHODS = set("""
append clear copy count endswith extend find get index insert isalnum isalpha isdigit islower isspace isupper items join
keys ljust lower lstrip partition pop remove replace reverse rfind rjust rpartition rsplit rstrip setdefault split
splitlines startswith strip update upper values zfill bit_length title capitalize swapcase casefold center expandtabs
removeprefix removesuffix rindex isascii isdecimal isnumeric istitle isidentifier isprintable translate sort add discard
maketrans
""".split())
BARRED_WORDS = re.compile(
    r"\b(type|typing|typing_extensions|enum|Enum|IntEnum|StrEnum|Flag|IntFlag|Generic|Protocol|ABC|ABCMeta|namedtuple"
    r"|NamedTuple|TypedDict|TYPE_CHECKING|abstractmethod)\b|dataclass|overload|contextmanager")
BARRED_NAMES = set("""
register mro elements open input version_info with_traceback add_note attrgetter breakpoint builtins compile copyright
credits delattr dir eval exec exit gc getattr globals hasattr help id importlib license locals methodcaller os quit
setattr vars sys format format_map
""".split())
AT_THE_TOP = (ast.ImportFrom, ast.FunctionDef, ast.ClassDef, ast.Assign, ast.AnnAssign, ast.Expr)
BARRED_NODES = (
    ast.Global, ast.AsyncFunctionDef, ast.AsyncFor, ast.AsyncWith, ast.Await, ast.Import, ast.Div, ast.MatMult,
    ast.TryStar,
)


def bound_names(tree):
    """Every name that a file gives a meaning inside its functions."""
    for node in ast.walk(tree):
        if isinstance(node, ast.Name) and isinstance(node.ctx, ast.Store):
            yield node.id
        if isinstance(node, ast.arg):
            yield node.arg
        if isinstance(node, (ast.FunctionDef, ast.ClassDef)):
            yield node.name


class Language(unittest.TestCase):
    def setUp(self):
        self.texts = {path.name: path.read_text() for path in FILES}
        self.trees = {name: ast.parse(text) for name, text in self.texts.items()}
        nodes = [node for tree in self.trees.values() for node in ast.walk(tree)]
        self.own = {node.name for node in nodes if isinstance(node, (ast.FunctionDef, ast.ClassDef))}
        self.fields = {node.attr for node in nodes
                       if isinstance(node, ast.Attribute) and isinstance(node.ctx, ast.Store)}

    def each_node(self):
        for name, tree in self.trees.items():
            for node in ast.walk(tree):
                yield f"{name}:{getattr(node, 'lineno', 0)}", node

    def test_files(self):
        self.assertIn("__init__.py", self.texts)
        for path in FILES:
            self.assertRegex(path.name, r"^([a-z0-9_]+|__init__)\.py$")

    def test_signs_and_sizes(self):
        for name, text in self.texts.items():
            self.assertRegex(text, r"\A[ -~\n]*\Z", name)
            self.assertLessEqual(text.count("\n"), 400, name)
            for row in text.split("\n"):
                self.assertLessEqual(len(row), 120, name)
            self.assertIsNone(BARRED_WORDS.search(text), name)
        for place, node in self.each_node():
            if isinstance(node, (ast.FunctionDef, ast.Lambda)):
                self.assertLessEqual(node.end_lineno - node.lineno + 1, 40, place)

    def test_what_stands_at_the_top(self):
        for name, tree in self.trees.items():
            for node in tree.body:
                self.assertIsInstance(node, AT_THE_TOP, name)
                if isinstance(node, ast.Expr):
                    self.assertIsInstance(node.value, ast.Constant, name)

    def test_imports(self):
        for place, node in self.each_node():
            if isinstance(node, ast.ImportFrom):
                self.assertEqual(node.level, 0, place)
                self.assertRegex(node.module, r"^(leastmaker\.[a-z0-9_]+|__future__)$", place)
                known = {name for name in bound_names(self.trees.get(node.module[11:] + ".py", ast.parse("")))}
                for alias in node.names:
                    self.assertTrue(node.module == "__future__" or alias.name in known, place)

    def test_no_two_files_import_from_each_other(self):
        ahead = {name: {node.module[11:] + ".py" for node in ast.walk(tree) if isinstance(node, ast.ImportFrom)}
                 for name, tree in self.trees.items()}
        while ahead:
            free = [name for name, others in ahead.items() if not others & set(ahead)]
            self.assertNotEqual(free, [], sorted(ahead))
            for name in free:
                del ahead[name]

    def test_nothing_has_the_name_of_an_import(self):
        for name, tree in self.trees.items():
            imported = {alias.name for node in ast.walk(tree) if isinstance(node, ast.ImportFrom)
                        for alias in node.names}
            self.assertEqual(imported & set(bound_names(tree)), set(), name)

    def test_iterated_at_once(self):
        for place, node in self.each_node():
            self.assertNotIsInstance(node, ast.GeneratorExp, place)
            if isinstance(node, (ast.Assign, ast.Return)) and isinstance(node.value, ast.Call):
                called = node.value.func
                name = called.id if isinstance(called, ast.Name) else getattr(called, "attr", None)
                self.assertNotIn(name, ("range", "zip", "enumerate", "reversed", "items", "keys", "values"), place)

    def test_generators_are_iterated_at_once(self):
        generators = {whole.name for place, whole in self.each_node() if isinstance(whole, ast.FunctionDef)
                      and any(isinstance(node, (ast.Yield, ast.YieldFrom)) for node in ast.walk(whole))}
        iterated = [node.iter for place, node in self.each_node() if isinstance(node, (ast.For, ast.comprehension))]
        for place, node in self.each_node():
            if isinstance(node, ast.Call) and isinstance(node.func, ast.Name) and node.func.id in generators:
                self.assertIn(node, iterated, place)
                for handed in node.args:
                    self.assertTrue(isinstance(handed, ast.Name) or ast.unparse(handed) == "()", place)

    def test_ends_of_withs(self):
        for place, whole in self.each_node():
            if isinstance(whole, ast.FunctionDef) and whole.name == "__exit__":
                self.assertEqual(ast.unparse(whole.args), "self, kind, value, trace")
                for node in ast.walk(whole):
                    if isinstance(node, ast.Call):
                        self.assertRegex(ast.unparse(node), r"^self\.[a-z]+\.(append\(self\.[a-z]+|clear\()\)$", place)
                    if isinstance(node, ast.stmt) and node != whole:
                        self.assertIsInstance(node, (ast.If, ast.Expr, ast.Pass), place)

    def test_no_method_has_the_name_of_a_field(self):
        methods = {node.name for place, whole in self.each_node() if isinstance(whole, ast.ClassDef)
                   for node in whole.body if isinstance(node, ast.FunctionDef)}
        self.assertEqual(methods & self.fields, set())

    def test_nodes(self):
        for place, node in self.each_node():
            self.assertNotIsInstance(node, BARRED_NODES, place)
            if isinstance(node, ast.Constant):
                self.assertNotIsInstance(node.value, float, place)
                self.assertFalse(isinstance(node.value, str) and "%" in node.value, place)
            if isinstance(node, ast.Compare):
                for sign, right in zip(node.ops, node.comparators):
                    if isinstance(sign, (ast.Is, ast.IsNot)):
                        self.assertTrue(isinstance(right, ast.Constant) and right.value in (None, True, False), place)

    def test_names(self):
        every = set(dir(builtins))
        for name, tree in self.trees.items():
            for bound in bound_names(tree):
                dunder = re.fullmatch("__[a-z]+__", bound)
                self.assertTrue(dunder or re.fullmatch("[A-Za-z][A-Za-z0-9_]*", bound), f"{name}: {bound}")
                self.assertNotIn(bound, BARRED_NAMES, name)
                self.assertNotIn(bound, every, name)
        for place, node in self.each_node():
            if isinstance(node, ast.Name) and node.id in every:
                self.assertIn(node.id, BUILTINS, place)

    def test_methods(self):
        for place, node in self.each_node():
            if isinstance(node, ast.Attribute):
                self.assertIn(node.attr, METHODS | self.own | self.fields, place)
                self.assertNotIn(node.attr, BARRED_NAMES, place)


if __name__ == "__main__":
    unittest.main()
