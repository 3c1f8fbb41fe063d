"""The rules of the language subset that can be read off the files of the package."""

import ast
import builtins
import pathlib
import re
import unittest

PACKAGE = pathlib.Path(__file__).resolve().parent.parent / "leapfit"

BUILTINS = set("""len range enumerate zip min max sum abs sorted reversed int str bool bytes list tuple dict set
    frozenset isinstance ord repr any all divmod super Exception ValueError TypeError KeyError IndexError LookupError
    ZeroDivisionError ArithmeticError OverflowError RuntimeError NotImplementedError AttributeError""".split())

METHODS = set("""append clear copy count endswith extend find get index insert isalnum isalpha isdigit islower isspace
    isupper items join keys ljust lower lstrip partition pop remove replace reverse rfind rjust rpartition rsplit
    rstrip setdefault split splitlines startswith strip update upper values zfill bit_length __init__""".split())

WORDS = set("""type typing typing_extensions enum Enum IntEnum StrEnum Flag IntFlag Generic Protocol ABC ABCMeta
    namedtuple NamedTuple TypedDict TYPE_CHECKING abstractmethod""".split())

NAMES = set("""register mro elements open input law version_info with_traceback add_note attrgetter breakpoint compile
    copyright credits delattr dir eval exec exit gc getattr globals hasattr help id importlib license locals
    methodcaller os quit setattr sys vars""".split())

BANNED = (ast.Global, ast.AsyncFunctionDef, ast.AsyncFor, ast.AsyncWith, ast.Await, ast.Div, ast.MatMult, ast.Import)


def files():
    return sorted(PACKAGE.glob("*.py"))


def tree_of(path):
    return ast.parse(path.read_text(encoding="utf-8"))


def own_methods():
    return {part.name for path in files() for node in tree_of(path).body if isinstance(node, ast.ClassDef)
            for part in node.body if isinstance(part, ast.FunctionDef)}


def bound_names(tree):
    for node in ast.walk(tree):
        if isinstance(node, ast.Name) and isinstance(node.ctx, ast.Store):
            yield node.id
        elif isinstance(node, (ast.FunctionDef, ast.ClassDef)):
            yield node.name
        elif isinstance(node, ast.arg):
            yield node.arg


def outer_names(tree):
    """The names that the functions and classes at module level and the imports bind, each as often as it is bound."""
    for node in tree.body:
        if isinstance(node, (ast.FunctionDef, ast.ClassDef)):
            yield node.name
        elif isinstance(node, ast.ImportFrom):
            yield from (item.asname or item.name for item in node.names)
        elif isinstance(node, ast.Assign):
            yield node.targets[0].id


def inner_names(tree):
    for node in ast.walk(tree):
        if isinstance(node, ast.FunctionDef):
            for part in node.body + [node.args]:
                yield from bound_names(part)


class LanguageTest(unittest.TestCase):
    def test_only_plain_files(self):
        names = [path.name for path in PACKAGE.iterdir() if path.name != "__pycache__"]
        for name in names:
            self.assertTrue(re.fullmatch(r"[a-z][a-z0-9_]*\.py|__init__\.py", name), name)
        self.assertIn("__init__.py", names)

    def test_sizes_and_characters(self):
        for path in files():
            text = path.read_text(encoding="utf-8")
            self.assertTrue(re.fullmatch(r"[ -~\n]*", text), path.name)
            lines = text.splitlines()
            self.assertLessEqual(len(lines), 399, path.name)
            self.assertLessEqual(max(len(line) for line in lines), 120, path.name)
            for node in ast.walk(tree_of(path)):
                if isinstance(node, ast.FunctionDef):
                    self.assertLessEqual(node.end_lineno - node.lineno + 1, 40, (path.name, node.name))

    def test_words(self):
        for path in files():
            text = path.read_text(encoding="utf-8")
            found = set(re.findall(r"[A-Za-z0-9_]+", text))
            self.assertEqual(found & WORDS, set(), path.name)
            self.assertIsNone(re.search("dataclass|overload|contextmanager", text), path.name)

    def test_statements_and_values(self):
        for path in files():
            for node in ast.walk(tree_of(path)):
                self.assertNotIsInstance(node, BANNED, (path.name, getattr(node, "lineno", None)))
                if isinstance(node, ast.Constant):
                    self.assertNotIsInstance(node.value, (float, complex), (path.name, node.lineno))
                    if isinstance(node.value, str):
                        self.assertNotIn("%", node.value, (path.name, node.lineno))
                if isinstance(node, ast.BinOp) and isinstance(node.op, ast.Pow):
                    self.assertIsInstance(node.right, ast.Constant, (path.name, node.lineno))

    def test_names(self):
        for path in files():
            tree = tree_of(path)
            for name in bound_names(tree):
                if name not in ("__init__", "__len__"):
                    self.assertTrue(re.fullmatch(r"[A-Za-z][A-Za-z0-9_]*", name), (path.name, name))
                    self.assertFalse(hasattr(builtins, name) or name in NAMES, (path.name, name))

    def test_builtins_and_methods(self):
        for path in files():
            for node in ast.walk(tree_of(path)):
                if isinstance(node, ast.Name) and hasattr(builtins, node.id):
                    self.assertIn(node.id, BUILTINS, (path.name, node.lineno))
                if isinstance(node, ast.Call) and isinstance(node.func, ast.Attribute):
                    self.assertIn(node.func.attr, METHODS | own_methods(), (path.name, node.lineno))

    def test_methods_and_attributes_have_different_names(self):
        attributes = {node.attr for path in files() for node in ast.walk(tree_of(path))
                      if isinstance(node, ast.Attribute) and isinstance(node.ctx, ast.Store)}
        self.assertEqual(attributes & own_methods(), set())
        for path in files():
            called = [node.func for node in ast.walk(tree_of(path)) if isinstance(node, ast.Call)]
            for node in ast.walk(tree_of(path)):
                if isinstance(node, ast.Attribute) and isinstance(node.ctx, ast.Load) and node.attr not in attributes:
                    lines = [func.lineno for func in called if isinstance(func, ast.Attribute) and func.attr == node.attr]
                    self.assertIn(node.lineno, lines, (path.name, node.attr))

    def test_each_name_is_bound_once(self):
        for path in files():
            tree = tree_of(path)
            outer = list(outer_names(tree))
            self.assertEqual(len(outer), len(set(outer)), path.name)
            self.assertEqual(set(outer) & set(inner_names(tree)), set(), path.name)

    def test_imports(self):
        found = {}
        for path in files():
            tree = tree_of(path)
            imports = [node for node in ast.walk(tree) if isinstance(node, ast.ImportFrom)]
            self.assertEqual([node for node in imports if node not in tree.body], [], path.name)
            found[path.stem] = []
            for node in imports:
                self.assertEqual(node.level, 0, path.name)
                self.assertTrue(re.fullmatch(r"leapfit\.[a-z0-9_]+", node.module), (path.name, node.module))
                source = node.module.split(".")[1]
                found[path.stem].append(source)
                defined = [part.name for part in tree_of(PACKAGE / (source + ".py")).body if hasattr(part, "name")]
                for item in node.names:
                    self.assertIn(item.name, defined, (path.name, source))
                    self.assertRegex(path.read_text(), r"(?s)\b%s\b.*\b%s\b" % (item.name, item.name))
        self.check_no_circle(found)

    def check_no_circle(self, found):
        left = dict(found)
        while left:
            free = [name for name in left if not any(source in left for source in left[name])]
            self.assertTrue(free, "these files import from each other: %s" % sorted(left))
            for name in free:
                del left[name]

    def test_module_level(self):
        for path in files():
            for node in tree_of(path).body:
                docstring = isinstance(node, ast.Expr) and isinstance(node.value, ast.Constant)
                allowed = isinstance(node, (ast.ImportFrom, ast.FunctionDef, ast.ClassDef, ast.Assign))
                self.assertTrue(docstring or allowed, (path.name, node.lineno))


if __name__ == "__main__":
    unittest.main()
