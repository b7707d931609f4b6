"""The rules of ../shared/LANGUAGE.md that can be seen in the files one by one."""

import ast
import builtins
import pathlib
import re
import unittest

PACKAGE = pathlib.Path(__file__).resolve().parent.parent / "tablemanners"
BARRED_WORDS = re.compile(
    r"\b(type|typing|typing_extensions|enum|Enum|IntEnum|StrEnum|Flag|IntFlag|Generic|Protocol|ABC|ABCMeta|namedtuple|"
    r"NamedTuple|TypedDict|TYPE_CHECKING|abstractmethod)\b|dataclass|overload|contextmanager")
BARRED_NAMES = {"register", "mro", "elements", "open", "input", "version_info", "with_traceback", "add_note", "format"}
BUILTINS = set("""len range enumerate zip min max sum abs sorted reversed int str bool bytes list tuple dict set frozenset
    isinstance ord repr any all divmod Exception ValueError TypeError KeyError IndexError LookupError ZeroDivisionError
    ArithmeticError OverflowError RuntimeError NotImplementedError AttributeError StopIteration NotImplemented""".split())
DOUBLE_UNDERSCORE = {"__init__", "__all__", "__version__", "__name__"}
NODES_BARRED = (ast.Global, ast.AsyncFunctionDef, ast.Import, ast.Div, ast.Await)


def files():
    return sorted(PACKAGE.glob("*.py"))


def parsed():
    texts = [(path, path.read_text(encoding="utf-8")) for path in files()]
    return [(path, text, ast.parse(text)) for path, text in texts]


def bound_names(tree):
    """Names that are parameters or are assigned in functions."""
    for node in ast.walk(tree):
        if isinstance(node, ast.arg):
            yield node.arg
        if isinstance(node, ast.Name) and isinstance(node.ctx, ast.Store):
            yield node.id


class Language(unittest.TestCase):
    def test_the_folder_holds_files_of_the_program_only(self):
        for path in PACKAGE.iterdir():
            if path.name != "__pycache__":
                self.assertRegex(path.name, r"^[a-z_0-9]+\.py$")

    def test_sizes_and_signs(self):
        for path, text, tree in parsed():
            self.assertLessEqual(len(text.splitlines()), 400, path)
            self.assertLessEqual(max(map(len, text.splitlines())), 120, path)
            self.assertRegex(text, r"^[ -~\n]*$")
            for node in ast.walk(tree):
                if isinstance(node, ast.FunctionDef):
                    self.assertLessEqual(node.end_lineno - node.lineno + 1, 40, node.name)

    def test_words(self):
        for path, text, tree in parsed():
            self.assertIsNone(BARRED_WORDS.search(text), path)
            for node in ast.walk(tree):
                if isinstance(node, ast.Constant):
                    self.assertNotIsInstance(node.value, (float, complex))
                    self.assertNotIn("%", str(node.value))

    def test_names(self):
        for path, text, tree in parsed():
            imports = {name.name for node in ast.walk(tree) if isinstance(node, ast.ImportFrom) for name in node.names}
            classes = {node.name for node in ast.walk(tree) if isinstance(node, ast.ClassDef)}
            for name in bound_names(tree):
                self.assertNotIn(name, imports | classes | BARRED_NAMES | set(dir(builtins)), path)
                self.assertFalse(name.startswith("_"), name)
            for node in ast.walk(tree):
                if isinstance(node, ast.FunctionDef) and node.name.startswith("_"):
                    self.assertIn(node.name, DOUBLE_UNDERSCORE)
                if isinstance(node, ast.Name) and hasattr(builtins, node.id):
                    self.assertIn(node.id, BUILTINS, path)

    def test_imports(self):
        known = {path.stem: tree for path, text, tree in parsed()}
        needs = {}
        for path, text, tree in parsed():
            needs[path.stem] = set()
            for node in ast.walk(tree):
                self.assertNotIsInstance(node, NODES_BARRED)
                if isinstance(node, ast.ImportFrom):
                    self.assertIn(node, tree.body)
                    package, dot, name = node.module.partition(".")
                    self.assertEqual((package, node.level), ("tablemanners", 0))
                    needs[path.stem].add(name)
                    own = {each.name for each in known[name].body if isinstance(each, (ast.FunctionDef, ast.ClassDef))}
                    own |= {each.targets[0].id for each in known[name].body if isinstance(each, ast.Assign)}
                    self.assertLessEqual({each.name for each in node.names}, own)
        while needs:
            free = [name for name in needs if not needs[name] & set(needs)]
            self.assertTrue(free, "files import from each other")
            needs = {name: needs[name] for name in needs if name not in free}

    def test_module_level_and_is(self):
        for path, text, tree in parsed():
            for node in tree.body:
                self.assertIsInstance(node, (ast.Expr, ast.ImportFrom, ast.FunctionDef, ast.ClassDef, ast.Assign))
            for node in ast.walk(tree):
                if isinstance(node, ast.Compare) and isinstance(node.ops[0], (ast.Is, ast.IsNot)):
                    self.assertIsInstance(node.comparators[0], ast.Constant)


if __name__ == "__main__":
    unittest.main()
