"""The rules of the Python subset that can be told from the text of the package's files."""

import ast
import builtins
import pathlib
import unittest

PACKAGE = pathlib.Path(__file__).resolve().parent.parent / "finallycopies"
BUILTINS = (
    "len range enumerate zip min max sum abs sorted reversed int str bool list tuple dict isinstance ord repr any all "
    "ValueError TypeError KeyError IndexError ArithmeticError"
).split()
# Methods of lists, dicts and strings that the package may call.
CALLED = (
    "append clear copy count extend find get index insert items join keys pop remove reverse setdefault split "
    "startswith update values bit_length"
).split()
LIBRARY = ("heapq", "math", "itertools", "collections", "__future__")


def sources():
    return [path for path in sorted(PACKAGE.rglob("*")) if "__pycache__" not in path.parts]


class Language(unittest.TestCase):
    def test_only_files_of_python(self):
        self.assertTrue((PACKAGE / "__init__.py").is_file())
        for path in sources():
            self.assertEqual(path.suffix, ".py", path)

    def test_characters_and_sizes(self):
        for path in sources():
            text = path.read_bytes().decode("ascii")
            self.assertLessEqual(len(text.split("\n")), 400, path)
            self.assertTrue(all(letter == "\n" or " " <= letter <= "~" for letter in text), path)
            self.assertLessEqual(max(map(len, text.split("\n"))), 120, path)

    def test_functions_are_small(self):
        for path in sources():
            for node in ast.walk(ast.parse(path.read_text())):
                if isinstance(node, ast.FunctionDef):
                    self.assertLessEqual(node.end_lineno - node.lineno + 1, 40, (path, node.name))

    def test_imports(self):
        for path in sources():
            for node in ast.walk(ast.parse(path.read_text())):
                self.assertNotIsInstance(node, ast.Import, path)
                if isinstance(node, ast.ImportFrom):
                    self.assertEqual(node.level, 0, path)
                    self.assertIn(node.module.split(".")[0], ("finallycopies",) + LIBRARY, path)
                    self.assertNotIn("*", [name.name for name in node.names], path)

    def test_nothing_runs_at_module_level(self):
        allowed = (ast.ImportFrom, ast.FunctionDef, ast.ClassDef, ast.Assign, ast.Expr)
        for path in sources():
            for node in ast.parse(path.read_text()).body:
                self.assertIsInstance(node, allowed, path)
                if isinstance(node, ast.Expr):
                    self.assertIsInstance(node.value, ast.Constant, path)
                if isinstance(node, ast.Assign):
                    calls = [inner for inner in ast.walk(node) if isinstance(inner, ast.Call)]
                    self.assertEqual(calls, [], path)

    def test_names_are_imported_from_the_files_that_define_them(self):
        trees = {f"finallycopies.{path.stem}": ast.parse(path.read_text()) for path in sources()}
        for tree in trees.values():
            for node in tree.body:
                if isinstance(node, ast.ImportFrom) and node.module in trees:
                    defined = bound_at_module_level(trees[node.module])
                    for name in node.names:
                        self.assertIsNone(name.asname)
                        self.assertEqual(defined.count(name.name), 1, (node.module, name.name))

    def test_no_two_files_import_from_each_other(self):
        imports = {path.stem: set() for path in sources()}
        for path in sources():
            for node in ast.parse(path.read_text()).body:
                if isinstance(node, ast.ImportFrom) and node.module.startswith("finallycopies."):
                    imports[path.stem].add(node.module.split(".")[1])
        while imports:
            free = [name for name in imports if not imports[name] & set(imports)]
            self.assertTrue(free, imports)
            for name in free:
                del imports[name]

    def test_names_have_one_meaning(self):
        for path in sources():
            tree = ast.parse(path.read_text())
            imported = [name.name for node in tree.body if isinstance(node, ast.ImportFrom) for name in node.names]
            classes = [node.name for node in tree.body if isinstance(node, ast.ClassDef)]
            for node in ast.walk(tree):
                name = getattr(node, "arg", None) or getattr(node, "id", None)
                if isinstance(node, ast.arg) or isinstance(getattr(node, "ctx", None), ast.Store):
                    self.assertNotIn(name, imported + classes, path)
                    self.assertFalse(name is not None and hasattr(builtins, name), (path, name))

    def test_reversed_stands_over_what_is_written(self):
        written = ("list", "tuple", "sorted", "range")
        for path in sources():
            for node in ast.walk(ast.parse(path.read_text())):
                if isinstance(node, ast.Call) and getattr(node.func, "id", None) == "reversed":
                    over = node.args[0]
                    called = isinstance(over, ast.Call) and getattr(over.func, "id", None) in written
                    self.assertTrue(called or isinstance(over, (ast.List, ast.Tuple)), (path, node.lineno))

    def test_builtins_and_methods(self):
        defined = {node.name for tree in trees() for node in ast.walk(tree) if isinstance(node, ast.FunctionDef)}
        for tree in trees():
            for node in ast.walk(tree):
                if isinstance(node, ast.Name) and hasattr(builtins, node.id):
                    self.assertIn(node.id, BUILTINS)
                if isinstance(node, ast.Call) and isinstance(node.func, ast.Attribute):
                    self.assertIn(node.func.attr, CALLED + sorted(defined))

    def test_no_name_is_a_method_and_an_attribute(self):
        methods, attributes = set(), set()
        for tree in trees():
            for made in [node for node in tree.body if isinstance(node, ast.ClassDef)]:
                methods |= {node.name for node in made.body if isinstance(node, ast.FunctionDef)}
                for node in ast.walk(made):
                    if isinstance(node, ast.Attribute) and isinstance(node.ctx, ast.Store):
                        attributes.add(node.attr)
        self.assertEqual(methods & attributes, set())
        self.assertEqual((methods | attributes) & set(CALLED), set())

    def test_what_is_not_used(self):
        unused = (ast.GeneratorExp, ast.Set, ast.SetComp, ast.Lambda, ast.Global, ast.With, ast.Yield)
        unused += (ast.AsyncFunctionDef, ast.Try, ast.Div, ast.Mod, ast.Invert, ast.JoinedStr, ast.Match, ast.NamedExpr)
        for tree in trees():
            for node in ast.walk(tree):
                self.assertNotIsInstance(node, unused)
                if isinstance(node, ast.Constant):
                    self.assertNotIsInstance(node.value, float)
                if isinstance(node, ast.Raise):
                    self.assertIsInstance(node.exc, ast.Call)
                if isinstance(node, (ast.For, ast.comprehension)):
                    self.assertNotEqual(getattr(node.iter, "id", None), "self")

    def test_all_names_that_are_imported_are_used(self):
        for tree in trees():
            used = {node.id for node in ast.walk(tree) if isinstance(node, ast.Name)}
            for node in tree.body:
                if isinstance(node, ast.ImportFrom):
                    self.assertEqual([name.name for name in node.names if name.name not in used], [])


def trees():
    return [ast.parse(path.read_text()) for path in sources()]


def bound_at_module_level(tree):
    """The names that a file defines itself."""
    found = [node.name for node in tree.body if isinstance(node, (ast.FunctionDef, ast.ClassDef))]
    for node in tree.body:
        if isinstance(node, ast.Assign):
            found.extend([target.id for target in node.targets])
    return found


if __name__ == "__main__":
    unittest.main()
