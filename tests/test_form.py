"""The form of the code: the rules of the language that a look at the files can tell."""

import ast
import builtins
import re
import unittest
from pathlib import Path

from interface import DEFINED

PACKAGE = Path(__file__).resolve().parent.parent / "cointakes"
FILES = sorted(PACKAGE.rglob("*.py"))
LIBRARY = {
    "math": ("gcd", "lcm", "isqrt", "comb", "perm", "factorial"),
    "itertools": ("product", "combinations", "permutations", "chain", "accumulate", "pairwise", "islice", "zip_longest"),
}
BUILTINS = """len range enumerate zip min max sum abs sorted reversed int str bool list tuple dict set isinstance ord
    repr any all divmod map iter next super property ValueError KeyError IndexError""".split()
BARRED = (ast.Import, ast.AsyncFunctionDef, ast.AsyncFor, ast.AsyncWith, ast.Await, ast.TryStar, ast.Div, ast.MatMult)
DECORATORS = ("property", "staticmethod", "classmethod")
WORDS = """typing typing_extensions enum Enum IntEnum StrEnum Flag IntFlag Generic Protocol ABC ABCMeta namedtuple
    NamedTuple TypedDict TYPE_CHECKING abstractmethod type register mro elements open input law version_info""".split()
METHODS = """append clear copy count endswith extend find get index insert isalnum isalpha isdigit islower isspace
    isupper items join keys ljust lower lstrip partition pop remove replace reverse rfind rjust rpartition rsplit
    rstrip setdefault split splitlines startswith strip update upper values zfill bit_length __init__""".split()


def trees():
    return [(file, ast.parse(file.read_text("ascii"))) for file in FILES]


def functions(tree):
    return [node for node in ast.walk(tree) if isinstance(node, ast.FunctionDef)]


def bound_in(function):
    """The names that a function assigns, its parameters included."""
    arguments = {argument.arg for argument in ast.walk(function) if isinstance(argument, ast.arg)}
    stored = {node.id for node in ast.walk(function) if isinstance(node, ast.Name) and isinstance(node.ctx, ast.Store)}
    return arguments | stored


def imported(tree):
    return [(node.module, alias.name) for node in tree.body if isinstance(node, ast.ImportFrom) for alias in node.names]


def defined(tree):
    names = [node.name for node in tree.body if isinstance(node, (ast.FunctionDef, ast.ClassDef))]
    return names + [target.id for node in tree.body if isinstance(node, ast.Assign) for target in node.targets]


class Form(unittest.TestCase):
    def test_files(self):
        others = [path for path in PACKAGE.rglob("*") if path.suffix not in (".py", ".pyc") and path.name != "__pycache__"]
        self.assertEqual(others, [])
        self.assertTrue((PACKAGE / "__init__.py").is_file())
        for file in FILES:
            self.assertRegex(file.name, r"\A(__init__|[a-z][a-z0-9_]*)\.py\Z")

    def test_characters_and_sizes(self):
        for file in FILES:
            text = file.read_text("ascii")
            self.assertRegex(text, r"\A[ -~\n]*\n\Z", file)
            self.assertNotIn("_wall", text)
            self.assertLessEqual(len(text.splitlines()), 399, file)
            for line in text.splitlines():
                self.assertLessEqual(len(line), 120, file)
                self.assertEqual(line, line.rstrip(), file)

    def test_functions(self):
        for file, tree in trees():
            for function in functions(tree):
                told = f"{file.name} {function.name}"
                self.assertLessEqual(function.end_lineno - function.lineno + 1, 40, told)
                self.assertTrue(ast.get_docstring(function) or function.name == "__init__", told)

    def test_decorators(self):
        for file, tree in trees():
            for node in tree.body:
                self.assertEqual(getattr(node, "decorator_list", []), [], file)
            for function in functions(tree):
                for decorator in function.decorator_list:
                    told = ast.unparse(decorator)
                    self.assertTrue(told in DECORATORS or told.endswith(".setter"), file)

    def test_statements_and_expressions(self):
        for file, tree in trees():
            for node in ast.walk(tree):
                self.assertNotIsInstance(node, BARRED, file)
                if isinstance(node, ast.Constant):
                    self.assertNotIsInstance(node.value, (float, complex), file)
                    self.assertNotIn("%", node.value if isinstance(node.value, str) else "", file)
                if isinstance(node, (ast.Is, ast.IsNot)):
                    continue
                if isinstance(node, ast.Call) and isinstance(node.func, ast.Attribute):
                    self.assertIn(node.func.attr, METHODS, file)
                if isinstance(node, ast.Raise):
                    self.assertIsInstance(node.exc, ast.Call, file)

    def test_module_level(self):
        for file, tree in trees():
            names = defined(tree) + [name for _, name in imported(tree)]
            self.assertEqual(len(names), len(set(names)), file)
            for node in tree.body:
                plain = isinstance(node, (ast.FunctionDef, ast.ClassDef, ast.ImportFrom, ast.Assign))
                self.assertTrue(plain or isinstance(node.value, ast.Constant), file)

    def test_imports(self):
        found = {file.stem: defined(tree) for file, tree in trees()}
        needs = {}
        for file, tree in trees():
            needs[file.stem] = set()
            for module, name in imported(tree):
                if module not in LIBRARY:
                    self.assertRegex(module, r"\Acointakes\.[a-z]+\Z")
                    needs[file.stem].add(module.partition(".")[2])
                self.assertIn(name, LIBRARY.get(module) or found[module.partition(".")[2]], file)
        while needs:
            free = [name for name in needs if not needs[name] & set(needs)]
            self.assertTrue(free, f"files import from each other: {sorted(needs)}")
            needs = {name: needs[name] for name in needs if name not in free}

    def test_imports_are_used(self):
        for file, tree in trees():
            used = {node.id for node in ast.walk(tree) if isinstance(node, ast.Name)}
            for _, name in imported(tree):
                self.assertIn(name, used, file)

    def test_names(self):
        for file, tree in trees():
            own = set(defined(tree)) | {name for _, name in imported(tree)}
            for function in functions(tree):
                bound = bound_in(function)
                self.assertEqual(bound & {name for _, name in imported(tree)}, set(), file)
                self.assertEqual({name for name in bound | own if hasattr(builtins, name)}, set(), file)
                read = {node.id for node in ast.walk(function) if isinstance(node, ast.Name)}
                self.assertEqual(read - bound - own - set(BUILTINS), set(), f"{file.name} {function.name}")

    def test_words(self):
        for file in FILES:
            words = set(re.findall(r"[A-Za-z_0-9]+", file.read_text("ascii")))
            self.assertEqual(words & set(WORDS), set(), file)

    def test_interface_stands_in_its_files(self):
        found = {file.stem: defined(tree) for file, tree in trees()}
        for stem, names in DEFINED.items():
            self.assertEqual(set(names) - set(found[stem]), set())

    def test_methods_stand_in_their_class(self):
        for file, tree in trees():
            for node in tree.body:
                if isinstance(node, ast.ClassDef) and node.name == "Desk":
                    own = [part.name for part in node.body if isinstance(part, ast.FunctionDef)]
                    self.assertEqual({"__init__", "run", "undo", "redo", "laying", "steps"} - set(own), set())
                    self.assertEqual(len(own), len(set(own)))

    def test_no_tests_in_the_package(self):
        self.assertEqual([file for file in FILES if file.name.startswith("test")], [])


if __name__ == "__main__":
    unittest.main()
