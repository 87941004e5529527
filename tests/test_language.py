"""The rules of the Python subset that can be told from the text of the package's files."""

import ast
import builtins
import pathlib
import unittest

PACKAGE = pathlib.Path(__file__).resolve().parent.parent / "finallycopies"
LIBRARY = ("heapq", "math", "itertools", "collections", "__future__")


def sources():
    return [path for path in sorted(PACKAGE.rglob("*")) if "__pycache__" not in path.parts]


class Language(unittest.TestCase):
    def test_only_files_of_python(self):
        self.assertTrue((PACKAGE / "__init__.py").is_file())
        for path in sources():
            self.assertEqual(path.suffix, ".py", path)

    def test_characters_and_sizes(self):
        for path in sources():
            text = path.read_bytes().decode("ascii")
            self.assertLessEqual(len(text.split("\n")), 400, path)
            self.assertTrue(all(letter == "\n" or " " <= letter <= "~" for letter in text), path)
            self.assertLessEqual(max(map(len, text.split("\n"))), 120, path)

    def test_functions_are_small(self):
        for path in sources():
            for node in ast.walk(ast.parse(path.read_text())):
                if isinstance(node, ast.FunctionDef):
                    self.assertLessEqual(node.end_lineno - node.lineno + 1, 40, (path, node.name))

    def test_imports(self):
        for path in sources():
            for node in ast.walk(ast.parse(path.read_text())):
                self.assertNotIsInstance(node, ast.Import, path)
                if isinstance(node, ast.ImportFrom):
                    self.assertEqual(node.level, 0, path)
                    self.assertIn(node.module.split(".")[0], ("finallycopies",) + LIBRARY, path)
                    self.assertNotIn("*", [name.name for name in node.names], path)

    def test_nothing_runs_at_module_level(self):
        allowed = (ast.ImportFrom, ast.FunctionDef, ast.ClassDef, ast.Assign, ast.Expr)
        for path in sources():
            for node in ast.parse(path.read_text()).body:
                self.assertIsInstance(node, allowed, path)
                if isinstance(node, ast.Expr):
                    self.assertIsInstance(node.value, ast.Constant, path)
                if isinstance(node, ast.Assign):
                    calls = [inner for inner in ast.walk(node) if isinstance(inner, ast.Call)]
                    self.assertEqual(calls, [], path)

    def test_names_are_imported_from_the_files_that_define_them(self):
        trees = {f"finallycopies.{path.stem}": ast.parse(path.read_text()) for path in sources()}
        for tree in trees.values():
            for node in tree.body:
                if isinstance(node, ast.ImportFrom) and node.module in trees:
                    defined = bound_at_module_level(trees[node.module])
                    for name in node.names:
                        self.assertIsNone(name.asname)
                        self.assertEqual(defined.count(name.name), 1, (node.module, name.name))

    def test_no_two_files_import_from_each_other(self):
        imports = {path.stem: set() for path in sources()}
        for path in sources():
            for node in ast.parse(path.read_text()).body:
                if isinstance(node, ast.ImportFrom) and node.module.startswith("finallycopies."):
                    imports[path.stem].add(node.module.split(".")[1])
        while imports:
            free = [name for name in imports if not imports[name] & set(imports)]
            self.assertTrue(free, imports)
            for name in free:
                del imports[name]

    def test_names_have_one_meaning(self):
        for path in sources():
            tree = ast.parse(path.read_text())
            imported = [name.name for node in tree.body if isinstance(node, ast.ImportFrom) for name in node.names]
            classes = [node.name for node in tree.body if isinstance(node, ast.ClassDef)]
            for node in ast.walk(tree):
                name = getattr(node, "arg", None) or getattr(node, "id", None)
                if isinstance(node, ast.arg) or isinstance(getattr(node, "ctx", None), ast.Store):
                    self.assertNotIn(name, imported + classes, path)
                    self.assertFalse(name is not None and hasattr(builtins, name), (path, name))

    def test_reversed_stands_over_what_is_written(self):
        written = ("list", "tuple", "sorted", "range")
        for path in sources():
            for node in ast.walk(ast.parse(path.read_text())):
                if isinstance(node, ast.Call) and getattr(node.func, "id", None) == "reversed":
                    over = node.args[0]
                    called = isinstance(over, ast.Call) and getattr(over.func, "id", None) in written
                    self.assertTrue(called or isinstance(over, (ast.List, ast.Tuple)), (path, node.lineno))


def bound_at_module_level(tree):
    """The names that a file defines itself."""
    found = [node.name for node in tree.body if isinstance(node, (ast.FunctionDef, ast.ClassDef))]
    for node in tree.body:
        if isinstance(node, ast.Assign):
            found.extend([target.id for target in node.targets])
    return found


if __name__ == "__main__":
    unittest.main()
