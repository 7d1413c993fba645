"""Rules of the language subset that can be seen in the files of the package."""

import ast
import builtins
import unittest
from pathlib import Path

PACKAGE = Path(__file__).resolve().parent.parent / "closechains"
FILES = sorted(PACKAGE.rglob("*.py"))
LIBRARY = {"math": {"gcd", "lcm", "isqrt", "comb", "perm", "factorial"}}
BUILTINS = {"len", "range", "enumerate", "zip", "min", "max", "sum", "abs", "sorted", "reversed",
            "int", "str", "bool", "list", "tuple", "dict", "set", "isinstance", "ord", "repr", "any",
            "all", "divmod", "pow", "iter", "next", "map", "super", "Exception", "ValueError",
            "TypeError", "KeyError", "IndexError", "LookupError"}
BARRED = (ast.AsyncFunctionDef, ast.AsyncFor, ast.AsyncWith, ast.Await, ast.Import, ast.Div)
DECORATORS = {"property", "staticmethod", "classmethod"}
METHODS = {"__init__", "__eq__", "__ne__", "__repr__", "__str__", "__len__"}


class LanguageTest(unittest.TestCase):
    def trees(self):
        self.assertGreater(len(FILES), 3)
        for path in FILES:
            yield path.name, ast.parse(path.read_text(encoding="ascii"))

    def nodes(self, *kinds):
        for name, tree in self.trees():
            for node in ast.walk(tree):
                if isinstance(node, kinds):
                    yield name, node

    def test_only_python_files(self):
        for path in PACKAGE.rglob("*"):
            if "__pycache__" not in path.parts:
                self.assertTrue(path.suffix == ".py" or path.is_dir(), path)

    def test_sizes_and_signs(self):
        for path in FILES:
            lines = path.read_bytes().split(b"\n")
            self.assertLess(len(lines), 400, path)
            for line in lines:
                self.assertLessEqual(len(line), 120, path)
                self.assertTrue(all(32 <= sign <= 126 for sign in line), path)
        for name, node in self.nodes(ast.FunctionDef):
            self.assertLessEqual(node.end_lineno - node.lineno + 1, 40, (name, node.name))

    def test_imports(self):
        for name, node in self.nodes(ast.ImportFrom):
            self.assertEqual(node.level, 0, name)
            told = {alias.name for alias in node.names}
            self.assertTrue(all(alias.asname is None for alias in node.names), name)
            if node.module in LIBRARY:
                self.assertLessEqual(told, LIBRARY[node.module], name)
            else:
                self.assertTrue(node.module.startswith("closechains."), name)

    def test_no_barred_parts(self):
        for name, node in self.nodes(*BARRED):
            self.fail(f"{name}:{node.lineno} {node}")
        for name, node in self.nodes(ast.Constant):
            self.assertNotIsInstance(node.value, (float, complex), name)

    def test_stars_in_calls_and_what_an_own_equality_bars(self):
        for name, node in self.nodes(ast.GeneratorExp):
            self.fail(f"{name}:{node.lineno} a list is needed here")
        for name, node in self.nodes(ast.Call):
            self.assertNotIn(getattr(node.func, "attr", None), ["sort", "format"], (name, node.lineno))
            for argument in node.args:
                if isinstance(argument, ast.Starred):
                    self.assertIsInstance(argument.value, ast.Name, (name, node.lineno))

    def test_decorators_and_double_underscores(self):
        for name, node in self.nodes(ast.FunctionDef):
            for decorator in node.decorator_list:
                self.assertIn(ast.unparse(decorator), DECORATORS, name)
            if node.name.startswith("__"):
                self.assertIn(node.name, METHODS, name)

    def test_builtins(self):
        for name, node in self.nodes(ast.Name):
            # A doctest that ran earlier leaves its last value there as "_".
            if node.id != "_" and hasattr(builtins, node.id):
                self.assertIn(node.id, BUILTINS | DECORATORS, (name, node.lineno))

    def test_no_imports_in_a_circle(self):
        needed = {name[:-3]: set() for name, _ in self.trees()}
        for name, node in self.nodes(ast.ImportFrom):
            if node.module.startswith("closechains."):
                needed[name[:-3]].add(node.module.split(".")[1])
        while needed:
            free = [name for name, others in needed.items() if not others & set(needed)]
            self.assertTrue(free, needed)
            needed = {name: others for name, others in needed.items() if name not in free}

    def test_names_of_imports_and_definitions_are_kept(self):
        for name, tree in self.trees():
            bound = [alias.name for node in tree.body if isinstance(node, ast.ImportFrom)
                     for alias in node.names]
            bound += [node.name for node in tree.body if isinstance(node, (ast.FunctionDef, ast.ClassDef))]
            self.assertEqual(len(bound), len(set(bound)), name)
            for node in ast.walk(tree):
                if isinstance(node, ast.arg):
                    self.assertNotIn(node.arg, bound, (name, node.lineno))
                if isinstance(node, ast.Name) and isinstance(node.ctx, ast.Store):
                    self.assertNotIn(node.id, bound, (name, node.lineno))

    def test_imports_are_used_and_come_from_where_they_are_defined(self):
        trees = dict(self.trees())
        for name, node in self.nodes(ast.ImportFrom):
            used = {other.id for other in ast.walk(trees[name]) if isinstance(other, ast.Name)}
            for alias in node.names:
                self.assertIn(alias.name, used, name)
                if node.module not in LIBRARY:
                    told = trees[node.module.split(".")[1] + ".py"].body
                    self.assertIn(alias.name, [getattr(one, "name", None) for one in told]
                                  + [one.targets[0].id for one in told if isinstance(one, ast.Assign)])
