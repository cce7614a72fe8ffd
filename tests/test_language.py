"""What can be seen of LANGUAGE.md at a glance: sizes, signs, imports and builtins of the package's files."""

import ast
import builtins
import pathlib
import unittest

PACKAGE = pathlib.Path(__file__).resolve().parent.parent / "claimfall"
BUILTINS = (
    "len range enumerate zip min max sum abs sorted reversed int str bool list tuple dict set isinstance ord repr any "
    "all divmod ValueError TypeError KeyError IndexError ZeroDivisionError RuntimeError NotImplemented property super type"
).split()
BARRED = (
    ast.AsyncFunctionDef, ast.Await, ast.GeneratorExp, ast.Global, ast.Div, ast.Match, ast.NamedExpr, ast.AnnAssign,
    ast.Yield, ast.YieldFrom,
)
BARRED_NAMES = (
    "register mro elements open input law version_info with_traceback add_note attrgetter breakpoint builtins compile "
    "delattr dir eval exec exit gc globals help id importlib locals os quit setattr sys vars"
).split()


def names_given(tree):
    """All names that a file gives to something: functions, classes, parameters, variables, attributes."""
    for node in ast.walk(tree):
        if isinstance(node, (ast.FunctionDef, ast.ClassDef)):
            yield node.name
        if isinstance(node, ast.arg):
            yield node.arg
        if isinstance(node, ast.Name) and isinstance(node.ctx, ast.Store):
            yield node.id
        if isinstance(node, ast.Attribute):
            yield node.attr


def trees():
    return [(path, ast.parse(path.read_text())) for path in sorted(PACKAGE.rglob("*.py"))]


class Language(unittest.TestCase):
    def test_the_folder_holds_py_files_only(self):
        kept = [path for path in PACKAGE.rglob("*") if "__pycache__" not in path.parts]
        self.assertEqual([path for path in kept if path.suffix != ".py"], [])
        self.assertIn(PACKAGE / "__init__.py", kept)

    def test_signs_and_sizes(self):
        for path, tree in trees():
            text = path.read_text()
            with self.subTest(path.name):
                self.assertTrue(all(sign == "\n" or " " <= sign <= "~" for sign in text))
                self.assertLessEqual(len(text.splitlines()), 399)
                self.assertLessEqual(max([len(line) for line in text.splitlines()]), 120)
                for node in ast.walk(tree):
                    if isinstance(node, ast.FunctionDef):
                        self.assertLessEqual(node.end_lineno - node.lineno + 1, 40, node.name)

    def test_imports(self):
        for path, tree in trees():
            for node in ast.walk(tree):
                with self.subTest(path.name):
                    self.assertNotIsInstance(node, ast.Import)
                    if isinstance(node, ast.ImportFrom):
                        self.assertTrue(node.module.startswith("claimfall."))
                        self.assertEqual(node.level, 0)

    def test_builtins(self):
        for path, tree in trees():
            for node in ast.walk(tree):
                if isinstance(node, ast.Name) and node.id != "_" and hasattr(builtins, node.id):
                    with self.subTest(path.name):
                        self.assertIn(node.id, BUILTINS)
                        self.assertIsInstance(node.ctx, ast.Load)

    def test_names(self):
        for path, tree in trees():
            with self.subTest(path.name):
                for name in names_given(tree):
                    self.assertNotIn(name, BARRED_NAMES)
                    self.assertFalse(hasattr(builtins, name) and not name.startswith("_"), name)
                for node in ast.walk(tree):
                    if isinstance(node, ast.ClassDef):
                        self.assertFalse(node.name.startswith("_"), node.name)
                    if isinstance(node, ast.Compare) and isinstance(node.ops[0], (ast.Is, ast.IsNot)):
                        self.assertIsInstance(node.comparators[0], ast.Constant)

    def test_each_name_of_a_file_is_given_once(self):
        for path, tree in trees():
            imported = [name.name for node in tree.body if isinstance(node, ast.ImportFrom) for name in node.names]
            defined = [node.name for node in tree.body if isinstance(node, (ast.FunctionDef, ast.ClassDef))]
            with self.subTest(path.name):
                self.assertEqual(len(set(imported + defined)), len(imported + defined))
                within = [node for node in ast.walk(tree) if isinstance(node, ast.FunctionDef)]
                for name in (name for function in within for name in names_given(function)):
                    self.assertNotIn(name, set(imported) - set(self.attributes(tree)), name)

    def attributes(self, tree):
        return [node.attr for node in ast.walk(tree) if isinstance(node, ast.Attribute)]

    def test_what_does_not_stand_in_the_files(self):
        for path, tree in trees():
            for node in ast.walk(tree):
                with self.subTest(path.name):
                    self.assertNotIsInstance(node, BARRED)
                    if isinstance(node, ast.Constant):
                        self.assertNotIsInstance(node.value, (float, complex))


if __name__ == "__main__":
    unittest.main()
