"""The form of the package's code: what of shared/LANGUAGE.md can be seen from its syntax."""

import ast
import builtins
import pathlib
import re
import unittest

FOLDER = pathlib.Path(__file__).parent.parent / "bowstands"

# L8, without what only __main__.py may use, and without what a later rule removes.
BUILTINS = set(
    "len range enumerate zip min max sum abs sorted reversed int str bool list tuple dict set isinstance ord repr"
    " any all divmod type iter next ValueError KeyError NotImplemented True False None".split()
)

# L25, the first list and the additional methods that the package may need.
METHODS = set(
    "append clear copy count endswith extend find get index insert isalnum isalpha isdigit islower isspace isupper"
    " items join keys ljust lower lstrip partition pop remove replace reverse rfind rjust rpartition rsplit rstrip"
    " setdefault split splitlines startswith strip update upper values zfill bit_length removeprefix removesuffix"
    " add discard".split()
)

# L17: not as a name, and not as a word of a file.
BARRED_NAMES = set("mro elements open input law version_info with_traceback add_note register".split())
BARRED_WORDS = re.compile(
    r"\b(typing|enum|Enum|IntEnum|StrEnum|Flag|IntFlag|Generic|Protocol|ABC|ABCMeta|namedtuple|NamedTuple"
    r"|TypedDict|abstractmethod)\b|dataclass|overload|contextmanager|_wall|_WallAttr"
)

STATEMENTS = (
    ast.FunctionDef, ast.ClassDef, ast.Return, ast.Delete, ast.Assign, ast.AugAssign, ast.For, ast.While, ast.If,
    ast.Raise, ast.Try, ast.Assert, ast.ImportFrom, ast.Nonlocal, ast.Expr, ast.Pass, ast.Break, ast.Continue,
)


def trees():
    """The pairs (path, tree) of all files of the package."""
    return [(path, ast.parse(path.read_text())) for path in sorted(FOLDER.glob("*.py"))]


def bound(tree):
    """The names that the file binds at module level, imports aside."""
    names = [node.name for node in tree.body if isinstance(node, (ast.FunctionDef, ast.ClassDef))]
    for node in tree.body:
        if isinstance(node, ast.Assign):
            names += [target.id for target in node.targets]
    return names


def imports(tree):
    """The pairs (file, name) that the file imports."""
    nodes = [node for node in tree.body if isinstance(node, ast.ImportFrom)]
    return [(node.module, alias.name) for node in nodes for alias in node.names]


def from_tables(tree):
    """The names that are assigned an item of a table of the module level, such as a function."""
    found = set()
    for node in ast.walk(tree):
        if isinstance(node, ast.Assign) and isinstance(node.value, ast.Subscript):
            if isinstance(node.value.value, ast.Name) and node.value.value.id in bound(tree):
                found |= {target.id for target in node.targets if isinstance(target, ast.Name)}
    return found


class Form(unittest.TestCase):
    def test_files(self):
        for path in FOLDER.iterdir():
            if path.name != "__pycache__":
                self.assertRegex(path.name, r"^[a-z0-9_]+\.py$")
        for path, tree in trees():
            text = path.read_text()
            lines = text.split("\n")
            self.assertLessEqual(len(lines) - 1, 399, path)
            self.assertRegex(text, r"\A[ -~\n]*\Z", path)
            self.assertLessEqual(max(map(len, lines)), 120, path)
            for node in ast.walk(tree):
                if isinstance(node, ast.FunctionDef):
                    self.assertLessEqual(node.end_lineno - node.lineno + 1, 40, (path, node.name))

    def test_imports(self):
        files = {f"bowstands.{path.stem}": tree for path, tree in trees()}
        for file, tree in files.items():
            for module, name in imports(tree):
                self.assertIn(name, bound(files[module]), (file, module))
            reached = {file}
            todo = [module for module, _ in imports(tree)]
            while todo:
                module = todo.pop()
                self.assertNotEqual(module, file)
                if module not in reached:
                    reached.add(module)
                    todo += [further for further, _ in imports(files[module])]

    def test_module_level(self):
        for path, tree in trees():
            names = bound(tree) + [name for _, name in imports(tree)]
            self.assertEqual(len(names), len(set(names)), path)
            self.assertIsInstance(tree.body[0], ast.Expr, path)
            for node in tree.body[1:]:
                self.assertIsInstance(node, (ast.ImportFrom, ast.FunctionDef, ast.ClassDef, ast.Assign), path)

    def test_statements(self):
        for path, tree in trees():
            for node in ast.walk(tree):
                about = (path, getattr(node, "lineno", 0))
                if isinstance(node, ast.stmt):
                    self.assertIsInstance(node, STATEMENTS, about)
                if isinstance(node, (ast.FunctionDef, ast.ClassDef)):
                    self.assertEqual(node.decorator_list, [], about)
                if isinstance(node, ast.ImportFrom):
                    self.assertTrue(node.level == 0 and node in tree.body, about)
                    self.assertTrue(all(alias.asname is None for alias in node.names), about)
                self.assertNotIsInstance(node, (ast.Div, ast.Set, ast.Lambda, ast.NamedExpr), about)
                if isinstance(node, ast.Constant):
                    self.assertNotIsInstance(node.value, (float, complex), about)

    def test_calls(self):
        own = {name for _, tree in trees() for name in bound(tree)}
        methods = {
            item.name for _, tree in trees() for node in tree.body if isinstance(node, ast.ClassDef)
            for item in node.body if isinstance(item, ast.FunctionDef)
        }
        for path, tree in trees():
            # A function may be handed to another one.
            handed = {node.arg for node in ast.walk(tree) if isinstance(node, ast.arg)}
            handed |= from_tables(tree)
            for node in [node for node in ast.walk(tree) if isinstance(node, ast.Call)]:
                about = (path, node.lineno)
                if isinstance(node.func, ast.Name):
                    self.assertIn(node.func.id, own | BUILTINS | handed, about)
                else:
                    self.assertIn(node.func.attr, METHODS | methods, about)
                taken = isinstance(node.func, ast.Name) and node.func.id in ("tuple", "list", "dict")
                for inner in node.args:
                    # A list where a class has an __eq__ (L7): so everywhere.
                    self.assertTrue(taken or not isinstance(inner, ast.GeneratorExp), about)

    def test_names(self):
        for path, tree in trees():
            text = path.read_text()
            self.assertIsNone(BARRED_WORDS.search(text), path)
            for found in re.finditer(r"\btype\b", text):
                self.assertEqual(text[found.end()], "(", path)
            taken = {name for _, name in imports(tree)}
            taken |= {node.name for node in tree.body if isinstance(node, ast.ClassDef)}
            for node in ast.walk(tree):
                given = []
                if isinstance(node, ast.Name) and isinstance(node.ctx, ast.Store):
                    given = [node.id]
                elif isinstance(node, ast.arg):
                    given = [node.arg]
                for name in given:
                    self.assertNotIn(name, taken, (path, node.lineno))
                for name in given + [getattr(node, "name", None) or ""]:
                    self.assertNotIn(name, BARRED_NAMES, path)
                    # The methods with two underscores are none of the builtins; doctest makes a builtin of "_".
                    is_own = name[:2] == "__" or name in ("", "_")
                    self.assertTrue(is_own or not hasattr(builtins, name), (path, name))


if __name__ == "__main__":
    unittest.main()
