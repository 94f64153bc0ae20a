"""Checks the rules of LANGUAGE.md that can be seen in the code by a simple look."""

import ast
import builtins
import pathlib
import unittest

PACKAGE = pathlib.Path(__file__).resolve().parent.parent / "allmends"
FILES = sorted(PACKAGE.glob("*.py"))
TREES = {path.stem: ast.parse(path.read_text()) for path in FILES}

# L8, L5
BUILTINS = set(
    "len range enumerate zip min max sum abs sorted reversed int str bool list tuple dict set isinstance ord repr "
    "any all divmod ValueError super iter".split()
)
# L25
METHODS = set(
    "append clear copy count endswith extend find get index insert isalnum isalpha isdigit islower isspace isupper "
    "items join keys ljust lower lstrip partition pop remove replace reverse rfind rjust rpartition rsplit rstrip "
    "setdefault split splitlines startswith strip update upper values zfill bit_length add discard __init__".split()
)
# L17
BARRED = set(
    "mro elements open input law version_info with_traceback add_note register type typing enum Enum Flag Generic "
    "Protocol ABC namedtuple dir eval exec exit gc globals locals help id vars compile".split()
)
MODULE_LEVEL = (ast.Expr, ast.ImportFrom, ast.FunctionDef, ast.ClassDef, ast.Assign)
SPECIAL = set("__init__ __eq__ __repr__ __str__ __len__ __iter__ __contains__".split())
# Some of these are allowed under conditions that this file does not check: the package does without them.
FORBIDDEN = (
    ast.Import, ast.Global, ast.AsyncFunctionDef, ast.Await, ast.Set, ast.GeneratorExp, ast.Div, ast.Try, ast.With,
    ast.AnnAssign, ast.Lambda, ast.Nonlocal, ast.Match,
)
# L2
LIBRARY = {"heapq": {"heappush", "heappop"}}


def nodes(kind):
    """Triples (file, tree, node) for all nodes of a kind."""
    return [(name, tree, node) for name, tree in TREES.items() for node in ast.walk(tree) if isinstance(node, kind)]


class FormTest(unittest.TestCase):
    def test_files(self):
        self.assertEqual([path.name for path in PACKAGE.iterdir() if path.suffix != ".py" and path.is_file()], [])
        self.assertIn(PACKAGE / "__init__.py", FILES)
        for path in FILES:
            text = path.read_text()
            lines = text.split("\n")
            self.assertLess(len(lines), 400, path.name)
            self.assertEqual(path.name, path.name.lower())
            for line in lines:
                self.assertLessEqual(len(line), 120, (path.name, line))
                self.assertTrue(all(" " <= character <= "~" for character in line), (path.name, line))

    def test_functions_are_short(self):
        for name, _, node in nodes(ast.FunctionDef):
            self.assertLessEqual(node.end_lineno - node.lineno + 1, 40, (name, node.name))
            self.assertEqual(node.decorator_list, [], (name, node.name))
            if node.name.startswith("__"):
                self.assertIn(node.name, SPECIAL)

    def test_statements_and_expressions(self):
        for name, tree in TREES.items():
            for node in tree.body:
                self.assertIsInstance(node, MODULE_LEVEL, name)
        for name, _, node in nodes(FORBIDDEN):
            self.fail((name, type(node).__name__, node.lineno))
        for name, _, node in nodes(ast.Constant):
            if isinstance(node.value, str):
                self.assertFalse("%" in node.value, (name, node.lineno))
            self.assertIsInstance(node.value, (int, str, type(None)))
        for name, _, node in nodes(ast.Delete):
            self.assertTrue(all(isinstance(target, ast.Subscript) for target in node.targets), (name, node.lineno))

    def test_imports_name_the_file_that_defines(self):
        for name, _, node in nodes(ast.ImportFrom):
            if node.module in LIBRARY:
                self.assertLessEqual({alias.name for alias in node.names}, LIBRARY[node.module], name)
                continue
            self.assertTrue(node.module.startswith("allmends."), name)
            other = TREES[node.module.split(".")[1]]
            defined = {item.name for item in other.body if isinstance(item, (ast.FunctionDef, ast.ClassDef))}
            defined |= {target.id for item in other.body if isinstance(item, ast.Assign) for target in item.targets}
            for alias in node.names:
                self.assertIsNone(alias.asname)
                self.assertIn(alias.name, defined, name)

    def test_no_two_files_import_from_each_other(self):
        below = {name: set() for name in TREES}
        for name, _, node in nodes(ast.ImportFrom):
            if node.module not in LIBRARY:
                below[name].add(node.module.split(".")[1])
        while below:
            free = [name for name, others in below.items() if not others]
            self.assertTrue(free, below)
            below = {name: others - set(free) for name, others in below.items() if name not in free}

    def test_builtins(self):
        for name, tree, node in nodes(ast.Name):
            if hasattr(builtins, node.id):
                self.assertIsInstance(node.ctx, ast.Load, (name, node.id))
                self.assertIn(node.id, BUILTINS, (name, node.lineno))
            self.assertNotIn(node.id, BARRED, name)
        for name, _, node in nodes((ast.FunctionDef, ast.ClassDef)):
            if not node.name.startswith("__"):
                self.assertFalse(hasattr(builtins, node.name), (name, node.name))
        for name, _, node in nodes(ast.arg):
            self.assertFalse(hasattr(builtins, node.arg), (name, node.arg))
            self.assertNotIn(node.arg, BARRED, name)

    def test_names_of_imports_and_classes_mean_nothing_else(self):
        for name, tree in TREES.items():
            imported = [alias.name for node in tree.body if isinstance(node, ast.ImportFrom) for alias in node.names]
            defined = [node.name for node in tree.body if isinstance(node, (ast.FunctionDef, ast.ClassDef))]
            self.assertEqual(len(set(imported + defined)), len(imported + defined), name)
            classes = [node.name for node in tree.body if isinstance(node, ast.ClassDef)]
            stored = {node.id for node in ast.walk(tree) if isinstance(node, ast.Name) and isinstance(node.ctx, ast.Store)}
            stored |= {node.arg for node in ast.walk(tree) if isinstance(node, ast.arg)}
            self.assertEqual(stored & set(imported + classes), set(), name)
            used = {node.id for node in ast.walk(tree) if isinstance(node, ast.Name)}
            self.assertLessEqual(set(imported), used, name)

    def test_no_name_is_a_method_and_an_attribute_of_a_class(self):
        for name, _, node in nodes(ast.ClassDef):
            methods = {item.name for item in node.body if isinstance(item, ast.FunctionDef)}
            stored = {
                inner.attr for inner in ast.walk(node) if isinstance(inner, ast.Attribute)
                and isinstance(inner.ctx, ast.Store) and isinstance(inner.value, ast.Name) and inner.value.id == "self"
            }
            self.assertEqual(methods & stored, set(), (name, node.name))

    def test_methods(self):
        own = {node.name for _, _, node in nodes(ast.FunctionDef)}
        for name, _, node in nodes(ast.Call):
            if isinstance(node.func, ast.Attribute):
                self.assertIn(node.func.attr, METHODS | own, (name, node.lineno))

    def test_attributes_are_assigned_by_a_class(self):
        assigned = {node.attr for _, _, node in nodes(ast.Attribute) if isinstance(node.ctx, ast.Store)}
        methods = {node.name for _, _, node in nodes(ast.FunctionDef)}
        self.assertEqual(assigned & methods & METHODS, set())
        for name, _, node in nodes(ast.Attribute):
            self.assertIn(node.attr, assigned | methods | METHODS, (name, node.lineno))


if __name__ == "__main__":
    unittest.main()
