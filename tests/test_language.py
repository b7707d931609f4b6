"""The rules of ../shared/LANGUAGE.md that can be seen in the files one by one."""

import ast
import builtins
import io
import pathlib
import re
import tokenize
import unittest

PACKAGE = pathlib.Path(__file__).resolve().parent.parent / "tablemanners"
BARRED_WORDS = re.compile(
    r"\b(type|typing|typing_extensions|enum|Enum|IntEnum|StrEnum|Flag|IntFlag|Generic|Protocol|ABC|ABCMeta|namedtuple|"
    r"NamedTuple|TypedDict|TYPE_CHECKING|abstractmethod)\b|dataclass|overload|contextmanager")
BARRED_NAMES = {"register", "mro", "elements", "open", "input", "version_info", "with_traceback", "add_note", "format"}
BUILTINS = set("""len range enumerate zip min max sum abs sorted reversed int str bool bytes list tuple dict set frozenset
    isinstance ord repr any all divmod Exception ValueError TypeError KeyError IndexError LookupError ZeroDivisionError
    ArithmeticError OverflowError RuntimeError NotImplementedError AttributeError StopIteration NotImplemented""".split())
DOUBLE_UNDERSCORE = {"__init__", "__all__", "__version__", "__name__"}
METHODS = set("""append clear copy count endswith extend find get index insert isalnum isalpha isdigit islower isspace
    isupper items join keys ljust lower lstrip partition pop remove replace reverse rfind rjust rpartition rsplit rstrip
    setdefault split splitlines startswith strip update upper values zfill bit_length""".split())
NODES_BARRED = (ast.Global, ast.AsyncFunctionDef, ast.Import, ast.Div, ast.Await)


def files():
    return sorted(PACKAGE.glob("*.py"))


def parsed():
    texts = [(path, path.read_text(encoding="utf-8")) for path in files()]
    return [(path, text, ast.parse(text)) for path, text in texts]


def bound_names(tree):
    """Names that are parameters or are assigned in functions."""
    for node in ast.walk(tree):
        if isinstance(node, ast.arg):
            yield node.arg
        if isinstance(node, ast.Name) and isinstance(node.ctx, ast.Store):
            yield node.id


class Language(unittest.TestCase):
    def test_the_folder_holds_files_of_the_program_only(self):
        for path in PACKAGE.iterdir():
            if path.name != "__pycache__":
                self.assertRegex(path.name, r"^[a-z_0-9]+\.py$")

    def test_sizes_and_signs(self):
        for path, text, tree in parsed():
            self.assertLessEqual(len(text.splitlines()), 400, path)
            self.assertLessEqual(max(map(len, text.splitlines())), 120, path)
            self.assertRegex(text, r"^[ -~\n]*$")
            for node in ast.walk(tree):
                if isinstance(node, ast.FunctionDef):
                    self.assertLessEqual(node.end_lineno - node.lineno + 1, 40, node.name)

    def test_words(self):
        for path, text, tree in parsed():
            self.assertIsNone(BARRED_WORDS.search(text), path)
            for node in ast.walk(tree):
                if isinstance(node, ast.Constant):
                    self.assertNotIsInstance(node.value, (float, complex))
                    self.assertNotIn("%", str(node.value))

    def test_names(self):
        for path, text, tree in parsed():
            imports = {name.name for node in ast.walk(tree) if isinstance(node, ast.ImportFrom) for name in node.names}
            classes = {node.name for node in ast.walk(tree) if isinstance(node, ast.ClassDef)}
            for name in bound_names(tree):
                self.assertNotIn(name, imports | classes | BARRED_NAMES | set(dir(builtins)), path)
                self.assertFalse(name.startswith("_"), name)
            for node in ast.walk(tree):
                if isinstance(node, ast.FunctionDef) and node.name.startswith("_"):
                    self.assertIn(node.name, DOUBLE_UNDERSCORE)
                if isinstance(node, ast.Name) and hasattr(builtins, node.id):
                    self.assertIn(node.id, BUILTINS, path)

    def test_imports(self):
        known = {path.stem: tree for path, text, tree in parsed()}
        needs = {}
        for path, text, tree in parsed():
            needs[path.stem] = set()
            for node in ast.walk(tree):
                self.assertNotIsInstance(node, NODES_BARRED)
                if isinstance(node, ast.ImportFrom):
                    self.assertIn(node, tree.body)
                    package, dot, name = node.module.partition(".")
                    self.assertEqual((package, node.level), ("tablemanners", 0))
                    needs[path.stem].add(name)
                    own = {each.name for each in known[name].body if isinstance(each, (ast.FunctionDef, ast.ClassDef))}
                    own |= {each.targets[0].id for each in known[name].body if isinstance(each, ast.Assign)}
                    self.assertLessEqual({each.name for each in node.names}, own)
        while needs:
            free = [name for name in needs if not needs[name] & set(needs)]
            self.assertTrue(free, "files import from each other")
            needs = {name: needs[name] for name in needs if name not in free}

    def test_module_level_and_is(self):
        for path, text, tree in parsed():
            for node in tree.body:
                self.assertIsInstance(node, (ast.Expr, ast.ImportFrom, ast.FunctionDef, ast.ClassDef, ast.Assign))
            for node in ast.walk(tree):
                if isinstance(node, ast.Compare) and isinstance(node.ops[0], (ast.Is, ast.IsNot)):
                    self.assertIsInstance(node.comparators[0], ast.Constant)

    def test_values_at_module_level(self):
        for path, text, tree in parsed():
            for node in tree.body:
                if isinstance(node, ast.Assign):
                    self.assertEqual([type(target) for target in node.targets], [ast.Name])
                    self.assertIsInstance(ast.literal_eval(node.value), (int, str, bytes, tuple))

    def test_calls(self):
        own = {node.name for path, text, tree in parsed() for node in ast.walk(tree)
               if isinstance(node, ast.FunctionDef)}
        for path, text, tree in parsed():
            for node in ast.walk(tree):
                if isinstance(node, ast.Call):
                    self.assertIsInstance(node.func, (ast.Name, ast.Attribute))
                    self.assertEqual(node.keywords, [])
                if isinstance(node, ast.Call) and isinstance(node.func, ast.Attribute):
                    self.assertIn(node.func.attr, METHODS | own)

    def test_errors_are_raised_by_name_and_none_is_caught(self):
        known = ast.parse((PACKAGE / "errors.py").read_text(encoding="utf-8"))
        errors = {node.name for node in known.body if isinstance(node, ast.ClassDef)}
        for path, text, tree in parsed():
            for node in ast.walk(tree):
                self.assertNotIsInstance(node, (ast.Try, ast.With, ast.Lambda, ast.Set, ast.SetComp, ast.GeneratorExp))
                if isinstance(node, ast.Raise):
                    self.assertIn(node.exc.func.id, errors)
                    self.assertIsNone(node.cause)

    def test_escapes_in_strings(self):
        for path, text, tree in parsed():
            for token in tokenize.generate_tokens(io.StringIO(text).readline):
                if token.type == tokenize.STRING:
                    for found in re.findall(r"\\(.)", token.string, re.DOTALL):
                        self.assertIn(found, "nt\\\"'")

    def test_every_function_says_what_it_is_for(self):
        for path, text, tree in parsed():
            for node in ast.walk(tree):
                if isinstance(node, (ast.FunctionDef, ast.ClassDef)) and node.name != "__init__":
                    self.assertTrue(ast.get_docstring(node), node.name)


if __name__ == "__main__":
    unittest.main()
