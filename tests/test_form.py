"""The form of the package's files: sizes, characters, imports, and the few words that every file has to avoid."""

import ast
import builtins
import unittest
from pathlib import Path

PACKAGE = Path(__file__).resolve().parent.parent / "keyriders"
FILES = sorted(PACKAGE.glob("*.py"))
LIBRARY = {"math": {"comb", "gcd", "lcm", "isqrt", "perm", "factorial"}}
BUILTINS = {
    "len", "range", "enumerate", "zip", "min", "max", "sum", "abs", "sorted", "reversed", "int", "str", "bool",
    "list", "tuple", "dict", "set", "isinstance", "ord", "repr", "any", "all", "divmod",
    "ValueError", "TypeError", "KeyError", "iter", "property",
}
BARRED = (
    ast.Global, ast.AsyncFunctionDef, ast.Await, ast.Div, ast.GeneratorExp, ast.Yield, ast.YieldFrom,
    ast.With, ast.Match, ast.NamedExpr, ast.Lambda,
)


def trees():
    return [(path, ast.parse(path.read_text())) for path in FILES]


class FormTest(unittest.TestCase):
    def test_the_folder_holds_plain_files_alone(self):
        found = sorted(path for path in PACKAGE.iterdir() if path.name != "__pycache__")
        self.assertEqual(found, FILES)
        for path in FILES:
            self.assertEqual(path.name, path.name.lower())

    def test_characters_lines_and_files(self):
        for path in FILES:
            text = path.read_bytes().decode("ascii")
            self.assertTrue(all(sign == "\n" or " " <= sign <= "~" for sign in text), path)
            self.assertLessEqual(len(text.splitlines()), 399, path)
            self.assertLessEqual(max(map(len, text.splitlines()), default=0), 120, path)

    def test_functions_are_small_and_told(self):
        for path, tree in trees():
            for node in ast.walk(tree):
                if isinstance(node, ast.FunctionDef):
                    self.assertLessEqual(node.end_lineno - node.lineno + 1, 40, (path, node.name))
                    self.assertLessEqual({ast.unparse(part) for part in node.decorator_list}, {"property"}, (path, node.name))

    def test_imports(self):
        for path, tree in trees():
            for node in ast.walk(tree):
                self.assertNotIsInstance(node, ast.Import, path)
                if isinstance(node, ast.ImportFrom):
                    self.assertIn(node, tree.body, path)
                    names = {alias.name for alias in node.names}
                    self.assertEqual({alias.asname for alias in node.names}, {None}, path)
                    if node.module in LIBRARY:
                        self.assertLessEqual(names, LIBRARY[node.module], path)
                    else:
                        self.assertEqual(node.module.split(".")[0], "keyriders", path)
                        self.assertLessEqual(names, defined(PACKAGE / (node.module.split(".")[1] + ".py")), path)

    def test_words_that_are_not_used(self):
        for path, tree in trees():
            for node in ast.walk(tree):
                self.assertNotIsInstance(node, BARRED, path)
                if isinstance(node, ast.Constant):
                    self.assertNotIsInstance(node.value, float, path)

    def test_just_own_errors_are_caught(self):
        own = defined(PACKAGE / "errors.py")
        for path, tree in trees():
            for node in ast.walk(tree):
                if isinstance(node, ast.Try):
                    self.assertEqual((len(node.handlers), node.finalbody), (1, []), path)
                    self.assertIn(node.handlers[0].type.id, own, path)
                if isinstance(node, ast.Raise) and node.exc is not None:
                    self.assertIn(node.exc.func.id, own, path)

    def test_no_attribute_has_the_name_of_a_property_or_of_a_method(self):
        told = set()
        for _, tree in trees():
            for node in ast.walk(tree):
                if isinstance(node, ast.ClassDef):
                    told.update(part.name for part in node.body if isinstance(part, ast.FunctionDef))
        for path, tree in trees():
            for node in ast.walk(tree):
                if isinstance(node, ast.Attribute) and isinstance(node.ctx, ast.Store):
                    self.assertNotIn(node.attr, told, path)

    def test_no_set_is_added_to(self):
        # A bench has a method of this name: so no set may be changed by it.
        for path, tree in trees():
            for node in ast.walk(tree):
                if isinstance(node, ast.Attribute) and node.attr in ("add", "discard"):
                    self.assertEqual(ast.unparse(node), "bench.add", path)

    def test_sets_stand_in_single_places_alone(self):
        for path, tree in trees():
            for node in ast.walk(tree):
                self.assertNotIsInstance(node, (ast.Set, ast.SetComp), path)
                if isinstance(node, (ast.Assign, ast.Return, ast.For)):
                    value = node.iter if isinstance(node, ast.For) else node.value
                    self.assertFalse(isinstance(value, ast.Call) and ast.unparse(value.func) == "set", path)

    def test_no_local_name_is_that_of_an_import_or_a_class(self):
        for path, tree in trees():
            told = {alias.name for node in tree.body if isinstance(node, ast.ImportFrom) for alias in node.names}
            told.update(node.name for node in tree.body if isinstance(node, (ast.ClassDef, ast.FunctionDef)))
            for node in ast.walk(tree):
                if isinstance(node, ast.arg):
                    self.assertNotIn(node.arg, told, path)
                if isinstance(node, ast.Name) and isinstance(node.ctx, ast.Store):
                    self.assertNotIn(node.id, told, path)
                    self.assertNotIn(node.id, dir(builtins), path)

    def test_imports_do_not_go_round(self):
        reached = {path.stem: {node.module.split(".")[1] for node in tree.body if isinstance(node, ast.ImportFrom)
                               and node.module.startswith("keyriders.")} for path, tree in trees()}
        for _ in reached:
            reached = {name: others.union(*[reached[other] for other in others]) for name, others in reached.items()}
        for name, others in reached.items():
            self.assertNotIn(name, others)

    def test_names_that_are_not_defined_are_plain_builtins(self):
        for path, tree in trees():
            known = bound(tree) | BUILTINS
            for node in ast.walk(tree):
                if isinstance(node, ast.Name) and isinstance(node.ctx, ast.Load):
                    self.assertIn(node.id, known, path)


def defined(path):
    """Return the names that a file defines at module level, those that it imports left out."""
    names = set()
    for node in ast.parse(path.read_text()).body:
        if isinstance(node, (ast.FunctionDef, ast.ClassDef)):
            names.add(node.name)
        if isinstance(node, ast.Assign):
            names.update(target.id for target in node.targets)
    return names


def bound(tree):
    """Return all names that a file binds anywhere."""
    names = set()
    for node in ast.walk(tree):
        if isinstance(node, (ast.FunctionDef, ast.ClassDef)):
            names.add(node.name)
        if isinstance(node, ast.arg):
            names.add(node.arg)
        if isinstance(node, ast.Name) and isinstance(node.ctx, ast.Store):
            names.add(node.id)
        if isinstance(node, ast.ImportFrom):
            names.update(alias.name for alias in node.names)
    return names
