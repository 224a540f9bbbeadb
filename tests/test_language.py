"""The rules for the package's files, as far as they can be told from the files alone."""

import ast
import builtins
import os
import re
import unittest
import warnings

PACKAGE = os.path.join(os.path.dirname(os.path.dirname(os.path.abspath(__file__))), "everycount")

BUILTINS = set("""len range enumerate zip min max sum abs sorted reversed int str bool list tuple dict set isinstance
    ord repr any all divmod pow iter next map property staticmethod classmethod Exception ValueError TypeError KeyError
    IndexError LookupError ZeroDivisionError ArithmeticError OverflowError RuntimeError NotImplementedError
    NotImplemented""".split())

METHODS = set("""append clear copy count endswith extend find get index insert isalnum isalpha isdigit islower isspace
    isupper items join keys ljust lower lstrip partition pop remove replace reverse rfind rjust rpartition rsplit
    rstrip setdefault split splitlines startswith strip update upper values zfill bit_length add discard sort""".split())

NOT_ALLOWED = (ast.Global, ast.AsyncFunctionDef, ast.Await, ast.AsyncFor, ast.AsyncWith, ast.Import, ast.GeneratorExp, ast.Div)

BARRED_NAMES = set("""register mro elements open input law version_info with_traceback add_note eval exec type vars
    globals locals dir id help exit quit compile super sys os""".split())


def files():
    found = []
    for folder, _, names in os.walk(PACKAGE):
        if os.path.basename(folder) != "__pycache__":
            found.extend(os.path.join(folder, name) for name in names)
    return sorted(found)


def trees():
    for path in files():
        with open(path, encoding="utf-8") as file:
            source = file.read()
        yield os.path.basename(path), source, ast.parse(source)


def docstrings(tree):
    """The constants of a file that are docstrings."""
    found = []
    for node in ast.walk(tree):
        if isinstance(node, (ast.Module, ast.ClassDef, ast.FunctionDef)) and node.body:
            first = node.body[0]
            if isinstance(first, ast.Expr) and isinstance(first.value, ast.Constant):
                found.append(first.value)
    return found


def own_names(tree):
    """All names that a file gives to something of its own."""
    for node in ast.walk(tree):
        if isinstance(node, (ast.FunctionDef, ast.ClassDef)):
            yield node.name
        elif isinstance(node, ast.arg):
            yield node.arg
        elif isinstance(node, ast.Name) and isinstance(node.ctx, ast.Store):
            yield node.id


def is_plainly_a_number(node):
    """Whether the file shows that this is a number: a literal, a length, or a sum of such."""
    if isinstance(node, ast.BinOp) and isinstance(node.op, ast.Add):
        return is_plainly_a_number(node.left) and is_plainly_a_number(node.right)
    if isinstance(node, ast.Call):
        return isinstance(node.func, ast.Name) and node.func.id in ("len", "int", "ord")
    return isinstance(node, ast.Constant) and isinstance(node.value, int)


class Language(unittest.TestCase):
    def test_files(self):
        names = [os.path.relpath(path, PACKAGE) for path in files()]
        self.assertIn("__init__.py", names)
        for name in names:
            self.assertRegex(name, r"^[a-z_0-9/]+\.py$")
            self.assertNotIn("test", name)

    def test_size_and_characters(self):
        for name, source, tree in trees():
            self.assertLessEqual(len(source.splitlines()), 399, name)
            self.assertTrue(set(source) <= set("\n") | set(map(chr, range(32, 127))), name)
            for line in source.splitlines():
                self.assertLessEqual(len(line), 120, name)
            for node in ast.walk(tree):
                if isinstance(node, ast.FunctionDef):
                    self.assertLessEqual(node.end_lineno - node.lineno + 1, 40, (name, node.name))

    def test_no_warnings(self):
        for name, source, _ in trees():
            with warnings.catch_warnings():
                warnings.simplefilter("error")
                compile(source, name, "exec")

    def test_imports(self):
        edges = {}
        for name, _, tree in trees():
            edges["everycount." + name[:-3]] = seen = []
            for node in ast.walk(tree):
                self.assertNotIsInstance(node, ast.Import, name)
                if isinstance(node, ast.ImportFrom):
                    self.assertIn(node, tree.body, name)
                    self.assertEqual(node.level, 0, name)
                    self.assertRegex(node.module, r"^(everycount\.[a-z_]+|heapq|math|itertools|collections)$")
                    self.assertNotIn("*", [alias.name for alias in node.names])
                    if node.module.startswith("everycount."):
                        seen.append(node.module)
        while edges:
            free = [module for module in edges if not set(edges[module]) & set(edges)]
            self.assertTrue(free, "files import from each other: %s" % sorted(edges))
            for module in free:
                del edges[module]

    def test_imported_names_are_defined_in_that_file(self):
        defined = {"everycount." + name[:-3]: [node.name for node in tree.body
                                               if isinstance(node, (ast.FunctionDef, ast.ClassDef))]
                   + [target.id for node in tree.body if isinstance(node, ast.Assign) for target in node.targets]
                   for name, _, tree in trees()}
        for name, _, tree in trees():
            for node in tree.body:
                if isinstance(node, ast.ImportFrom) and node.module.startswith("everycount."):
                    for alias in node.names:
                        self.assertIn(alias.name, defined[node.module], name)

    def test_module_level(self):
        for name, _, tree in trees():
            for node in tree.body:
                plain = (ast.ImportFrom, ast.FunctionDef, ast.ClassDef, ast.Assign, ast.Expr)
                self.assertIsInstance(node, plain, name)
            bound = [node.name for node in tree.body if isinstance(node, (ast.FunctionDef, ast.ClassDef))]
            bound += [alias.asname or alias.name for node in tree.body if isinstance(node, ast.ImportFrom)
                      for alias in node.names]
            self.assertEqual(len(bound), len(set(bound)), name)

    def test_statements_and_expressions(self):
        for name, _, tree in trees():
            for node in ast.walk(tree):
                if isinstance(node, ast.ClassDef):
                    self.assertIn(node, tree.body, name)
                    self.assertEqual(node.decorator_list, [])
                    continue
                self.assertNotIsInstance(node, NOT_ALLOWED, (name, getattr(node, "lineno", 0)))
                if isinstance(node, ast.Constant):
                    self.assertNotIsInstance(node.value, (float, complex), name)
                if isinstance(node, ast.Compare) and any(isinstance(sign, (ast.Is, ast.IsNot)) for sign in node.ops):
                    self.assertIsInstance(node.comparators[-1], ast.Constant, name)

    def test_strings(self):
        for name, _, tree in trees():
            left_out = docstrings(tree)
            for node in ast.walk(tree):
                if isinstance(node, ast.Constant) and isinstance(node.value, str):
                    self.assertNotIn("%", node.value, name)
                    if not any(node is other for other in left_out):
                        self.assertNotRegex(node.value, r"\b(type|typing|enum|Enum|Generic|Protocol|ABC)\b", name)

    def test_names(self):
        for name, source, tree in trees():
            self.assertNotRegex(source, r"\b(_wall|_WallAttr)\b")
            for own in own_names(tree):
                self.assertRegex(own, r"^(_|_?[A-Za-z][A-Za-z0-9_]*|__[a-z]+__)$", name)
                self.assertFalse(hasattr(builtins, own) and not own.startswith("__"), (name, own))
                self.assertNotIn(own, BARRED_NAMES, name)
            for node in ast.walk(tree):
                if isinstance(node, ast.Name) and hasattr(builtins, node.id):
                    self.assertIn(node.id, BUILTINS, (name, node.lineno))
                if isinstance(node, ast.Name) and node.id == "_":
                    self.assertIsInstance(node.ctx, ast.Store, (name, node.lineno))

    def test_local_names_are_not_those_of_imports_and_functions(self):
        for name, _, tree in trees():
            above = {node.name for node in tree.body if isinstance(node, (ast.FunctionDef, ast.ClassDef))}
            above |= {alias.name for node in tree.body if isinstance(node, ast.ImportFrom) for alias in node.names}
            for node in ast.walk(tree):
                if isinstance(node, ast.arg):
                    self.assertNotIn(node.arg, above, name)
                elif isinstance(node, ast.Name) and isinstance(node.ctx, ast.Store):
                    self.assertNotIn(node.id, above, name)

    def test_methods_of_builtin_values(self):
        own = {node.name for _, _, tree in trees() for node in ast.walk(tree) if isinstance(node, ast.FunctionDef)}
        for name, _, tree in trees():
            for node in ast.walk(tree):
                if isinstance(node, ast.Call) and isinstance(node.func, ast.Attribute):
                    self.assertIn(node.func.attr, METHODS | own | {"__init__"}, (name, node.lineno))

    def test_decorators(self):
        """Just properties, which change nothing and call nothing."""
        for name, _, tree in trees():
            for node in ast.walk(tree):
                if isinstance(node, ast.FunctionDef) and node.decorator_list:
                    self.assertEqual([ast.unparse(each) for each in node.decorator_list], ["property"], name)
                    self.assertFalse([each for each in ast.walk(node) if isinstance(each, (ast.Call, ast.Assign))], name)

    def test_what_is_compared_beside_a_class_that_compares(self):
        for name, _, tree in trees():
            for node in ast.walk(tree):
                if isinstance(node, ast.Call) and isinstance(node.func, ast.Name) and node.func.id in ("sorted", "min", "max"):
                    self.assertTrue(any(is_plainly_a_number(each) for each in node.args), (name, node.lineno))
                if isinstance(node, ast.Call) and isinstance(node.func, ast.Attribute):
                    self.assertNotEqual(node.func.attr, "sort", (name, node.lineno))

    def test_operators_change_nothing(self):
        for name, _, tree in trees():
            for node in ast.walk(tree):
                if isinstance(node, ast.FunctionDef) and node.name.startswith("__") and node.name != "__init__":
                    for each in ast.walk(node):
                        self.assertNotIsInstance(each, (ast.Assign, ast.AugAssign, ast.Delete), (name, node.name))
                    self.assertIsInstance(node.body[-1], ast.Return, (name, node.name))

    def test_errors_are_raised_and_caught_by_name(self):
        for name, _, tree in trees():
            for node in ast.walk(tree):
                if isinstance(node, ast.Raise) and node.exc is not None:
                    self.assertTrue(re.match(r"^[A-Z]\w+\(", ast.unparse(node.exc)), (name, node.lineno))
                if isinstance(node, ast.ExceptHandler):
                    self.assertIsNotNone(node.type, (name, node.lineno))


if __name__ == "__main__":
    unittest.main()
