"""The package keeps to the small language that it is written in, as far as its form shows."""

import ast
import builtins
import os
import re
import unittest

ROOT = os.path.join(os.path.dirname(os.path.dirname(os.path.abspath(__file__))), "crestjoin")
BUILTINS = set(
    "len range enumerate zip min max sum abs sorted reversed int str bool bytes list tuple dict set frozenset isinstance "
    "ord repr any all divmod Exception ValueError TypeError KeyError IndexError LookupError ZeroDivisionError "
    "ArithmeticError OverflowError RuntimeError NotImplementedError AttributeError StopIteration NotImplemented".split()
)
METHODS = set(
    "append clear copy count endswith extend find get index insert isalnum isalpha isdigit islower isspace isupper items "
    "join keys ljust lower lstrip partition pop remove replace reverse rfind rjust rpartition rsplit rstrip setdefault "
    "split splitlines startswith strip update upper values zfill bit_length".split()
)
LIBRARY = {"math": {"gcd", "lcm", "isqrt", "comb", "perm", "factorial"},
           "itertools": {"product", "combinations", "permutations"}}
WORDS = set(
    "type typing enum Enum namedtuple NamedTuple TypedDict Protocol Generic ABC register mro elements open input law "
    "eval exec compile globals locals vars dir id".split()
)
ONCE = {"zip", "enumerate", "reversed", "map"}
GOING_OVER = {"list", "tuple", "dict", "sorted", "sum", "any", "all", "enumerate", "zip", "min", "max", "len", "reversed"}


def files():
    for folder, _, names in os.walk(ROOT):
        for name in names:
            if not folder.endswith("__pycache__"):
                yield os.path.join(folder, name)


def parsed(path):
    with open(path, encoding="utf-8") as file:
        text = file.read()
    tree = ast.parse(text)
    for node in ast.walk(tree):
        for child in ast.iter_child_nodes(node):
            child.above = node
    return text, tree


def called(node):
    return node.func.id if isinstance(node, ast.Call) and isinstance(node.func, ast.Name) else None


def is_gone_over(node):
    """Whether what the node gives is iterated on the spot."""
    above = node.above
    if isinstance(above, (ast.For, ast.comprehension)):
        return above.iter is node
    if isinstance(above, ast.Call):
        return called(above) in GOING_OVER or (isinstance(above.func, ast.Attribute) and above.func.attr == "join")
    return False


class LanguageTest(unittest.TestCase):
    def each(self, *kinds):
        for path in files():
            for node in ast.walk(parsed(path)[1]):
                if isinstance(node, kinds):
                    yield f"{path}:{node.lineno}", node

    def test_files(self):
        for path in files():
            name = os.path.basename(path)
            self.assertRegex(name, r"^[a-z_]+\.py$")
            self.assertTrue(os.path.exists(os.path.join(os.path.dirname(path), "__init__.py")))
            text = parsed(path)[0]
            self.assertLessEqual(text.count("\n"), 399, path)
            self.assertLessEqual(max([len(line) for line in text.split("\n")]), 120, path)
            self.assertRegex(text, r"^[ -~\n]*$")

    def test_functions_are_small(self):
        for place, node in self.each(ast.FunctionDef):
            self.assertLessEqual(node.end_lineno - node.lineno + 1, 40, place)
            for decorator in node.decorator_list:
                self.assertIn(ast.unparse(decorator), ("property",), place)

    def test_module_level(self):
        for path in files():
            for node in parsed(path)[1].body:
                docstring = isinstance(node, ast.Expr) and isinstance(node.value, ast.Constant)
                kinds = (ast.ImportFrom, ast.FunctionDef, ast.ClassDef, ast.Assign)
                self.assertTrue(docstring or isinstance(node, kinds), path)

    def test_imports(self):
        for place, node in self.each(ast.Import, ast.ImportFrom):
            self.assertIsInstance(node, ast.ImportFrom, place)
            names = {alias.name for alias in node.names if alias.asname is None}
            self.assertEqual(len(names), len(node.names), place)
            if node.module in LIBRARY:
                self.assertLessEqual(names, LIBRARY[node.module], place)
            else:
                self.assertTrue(node.module.startswith("crestjoin.") and node.level == 0, place)
                path = os.path.join(os.path.dirname(ROOT), *node.module.split(".")) + ".py"
                body = parsed(path)[1].body
                defined = {inner.name for inner in body if isinstance(inner, (ast.FunctionDef, ast.ClassDef))}
                defined |= {inner.targets[0].id for inner in body if isinstance(inner, ast.Assign)}
                self.assertLessEqual(names, defined, place)

    def test_every_import_is_used(self):
        for path in files():
            text, tree = parsed(path)
            for node in ast.walk(tree):
                if isinstance(node, ast.ImportFrom):
                    for alias in node.names:
                        self.assertGreater(len(re.findall(rf"\b{alias.name}\b", text)), 1, f"{path}: {alias.name}")

    def test_names(self):
        for path in files():
            tree = parsed(path)[1]
            imported = {alias.name for node in ast.walk(tree) if isinstance(node, ast.ImportFrom) for alias in node.names}
            classes = {node.name for node in ast.walk(tree) if isinstance(node, ast.ClassDef)}
            functions = {node.name for node in tree.body if isinstance(node, ast.FunctionDef)}
            stored = {node.arg for node in ast.walk(tree) if isinstance(node, ast.arg)}
            stored |= {node.id for node in ast.walk(tree) if isinstance(node, ast.Name) and not isinstance(node.ctx, ast.Load)}
            self.assertEqual(stored & (imported | classes | functions | set(dir(builtins)) | WORDS), set(), path)
            self.assertEqual((functions | classes) & (set(dir(builtins)) | WORDS), set(), path)
            loaded = {node.id for node in ast.walk(tree) if isinstance(node, ast.Name) and isinstance(node.ctx, ast.Load)}
            self.assertLessEqual(loaded - stored - imported - classes - functions - {"property"}, BUILTINS, path)

    def test_methods_that_are_called(self):
        own = {node.name for _, node in self.each(ast.FunctionDef)}
        for place, node in self.each(ast.Call):
            if isinstance(node.func, ast.Attribute):
                self.assertIn(node.func.attr, METHODS | own, place)

    def test_attributes_methods_and_properties(self):
        """Each attribute that is read is assigned somewhere, and means one thing in all classes."""
        stored = {node.attr for _, node in self.each(ast.Attribute) if isinstance(node.ctx, ast.Store)}
        methods, properties = set(), set()
        for _, node in self.each(ast.ClassDef):
            for inner in node.body:
                if isinstance(inner, ast.FunctionDef):
                    (properties if inner.decorator_list else methods).add(inner.name)
        self.assertEqual((stored & methods, stored & properties, methods & properties), (set(), set(), set()))
        for place, node in self.each(ast.Attribute):
            if isinstance(node.ctx, ast.Load) and not (isinstance(node.above, ast.Call) and node.above.func is node):
                self.assertIn(node.attr, stored | properties, place)

    def test_what_a_loop_goes_over_is_not_changed_in_it(self):
        changing = {"append", "extend", "insert", "pop", "remove", "clear", "update", "setdefault", "reverse"}
        for place, node in self.each(ast.For):
            over = {ast.unparse(inner) for inner in ast.walk(node.iter) if isinstance(inner, (ast.Name, ast.Attribute))}
            for inner in [found for row in node.body for found in ast.walk(row)]:
                if isinstance(inner, ast.Call) and isinstance(inner.func, ast.Attribute) and inner.func.attr in changing:
                    self.assertNotIn(ast.unparse(inner.func.value), over, place)
                if isinstance(inner, ast.Subscript) and not isinstance(inner.ctx, ast.Load):
                    copied = called(node.iter) in ("list", "sorted")
                    self.assertTrue(copied or ast.unparse(inner.value) not in over, place)

    def test_forms_that_are_barred(self):
        barred = (ast.Global, ast.AsyncFunctionDef, ast.Await, ast.Div, ast.MatMult)
        for path in files():
            for node in ast.walk(parsed(path)[1]):
                self.assertNotIsInstance(node, barred, path)
                if isinstance(node, ast.Constant):
                    self.assertNotIsInstance(node.value, (float, complex, bytes), path)
                    self.assertFalse(isinstance(node.value, str) and "%" in node.value, path)
                if isinstance(node, ast.GeneratorExp):
                    self.assertIn(called(node.above), ("list", "tuple", "dict"), path)
                if isinstance(node, ast.Set):
                    self.assertIsInstance(node.above, ast.Compare, path)
                if isinstance(node, ast.BinOp) and isinstance(node.op, ast.Pow):
                    self.assertIsInstance(node.right, ast.Constant, path)
                if isinstance(node, ast.Compare) and isinstance(node.ops[0], (ast.Is, ast.IsNot)):
                    self.assertIn(ast.unparse(node.comparators[0]), ("None", "True", "False"), path)

    def test_what_is_iterated_at_once(self):
        for place, node in self.each(ast.Call):
            if called(node) in ONCE or (isinstance(node.func, ast.Attribute) and node.func.attr in ("items", "values", "keys")):
                self.assertTrue(is_gone_over(node), place)

    def test_sets_are_sorted_or_counted_at_once(self):
        for place, node in self.each(ast.Call, ast.SetComp):
            if isinstance(node, ast.SetComp) or called(node) in ("set", "frozenset"):
                self.assertIn(called(node.above), ("sorted", "len"), place)


if __name__ == "__main__":
    unittest.main()
