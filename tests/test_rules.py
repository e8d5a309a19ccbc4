"""The rules of how the package is written that can be told from its files."""

import ast
import builtins
import pathlib
import re
import unittest
import warnings

import drowsetree

FOLDER = pathlib.Path(drowsetree.__file__).parent
NOT_USED = (
    ast.Global, ast.AsyncFunctionDef, ast.Await, ast.AsyncFor, ast.AsyncWith, ast.Div, ast.GeneratorExp, ast.Yield,
    ast.YieldFrom, ast.Set, ast.SetComp, ast.Import, ast.With, ast.Match,
)
BUILTINS = {
    "len", "range", "enumerate", "zip", "min", "max", "sum", "abs", "sorted", "reversed", "int", "str", "bool",
    "list", "tuple", "dict", "isinstance", "ord", "repr", "any", "all", "divmod", "ValueError", "TypeError",
    "KeyError", "LookupError", "IndexError", "super",
}
SPECIAL = {"__init__", "__eq__", "__str__", "__len__"}
BARRED = {"register", "mro", "elements", "open", "input", "law", "type", "enum", "typing"}


def files():
    """Each file of the package, with its text and its tree."""
    for path in sorted(FOLDER.glob("*.py")):
        text = path.read_text(encoding="utf-8")
        yield path.name, text, ast.parse(text)


def bound_names(tree):
    """All names that a file's functions take or assign."""
    for node in ast.walk(tree):
        if isinstance(node, ast.arg):
            yield node.arg
        if isinstance(node, ast.Name) and isinstance(node.ctx, ast.Store):
            yield node.id
        if isinstance(node, ast.ExceptHandler) and node.name:
            yield node.name


class RulesTest(unittest.TestCase):
    def test_the_folder_has_plain_files_alone(self):
        for path in FOLDER.iterdir():
            if path.name != "__pycache__":
                self.assertRegex(path.name, r"^[a-z0-9_]+\.py$")

    def test_sizes_and_signs(self):
        for name, text, tree in files():
            self.assertRegex(text, r"\A[ -~\n]*\Z", name)
            rows = text.split("\n")
            self.assertLess(len(rows), 400, name)
            self.assertLessEqual(max(map(len, rows)), 120, name)
            for node in ast.walk(tree):
                if isinstance(node, ast.FunctionDef):
                    self.assertLessEqual(node.end_lineno - node.lineno + 1, 40, node.name)

    def test_no_warnings(self):
        for name, text, _ in files():
            with warnings.catch_warnings():
                warnings.simplefilter("error")
                compile(text, name, "exec")

    def test_what_is_not_used(self):
        for name, _, tree in files():
            for node in ast.walk(tree):
                self.assertNotIsInstance(node, NOT_USED, (name, getattr(node, "lineno", 0)))
                if isinstance(node, ast.Constant):
                    self.assertNotIsInstance(node.value, (float, complex))
                    if isinstance(node.value, str):
                        self.assertNotIn("%", node.value)
                if isinstance(node, (ast.FunctionDef, ast.ClassDef)):
                    self.assertEqual([], node.decorator_list)

    def test_imports_name_the_file_that_defines(self):
        for name, _, tree in files():
            behind = [node for node in tree.body if not isinstance(node, ast.Expr)]
            for at, node in enumerate(behind):
                if isinstance(node, ast.ImportFrom):
                    self.assertTrue(all(isinstance(one, ast.ImportFrom) for one in behind[:at]), name)
                    self.assertRegex(node.module, r"^drowsetree\.")
                    source = ast.parse((FOLDER / (node.module.split(".")[1] + ".py")).read_text())
                    for alias in node.names:
                        self.assertIsNone(alias.asname)
                        self.assertIn(alias.name, self.defined(source))

    def defined(self, tree):
        told = [node.name for node in tree.body if isinstance(node, (ast.FunctionDef, ast.ClassDef))]
        for node in tree.body:
            if isinstance(node, ast.Assign):
                told += [target.id for target in node.targets]
        return told

    def test_no_two_files_import_from_each_other(self):
        imports = {}
        for name, _, tree in files():
            sources = [node.module.split(".")[1] for node in tree.body if isinstance(node, ast.ImportFrom)]
            imports[name.removesuffix(".py")] = sources
        free = set()
        while len(free) < len(imports):
            more = {name for name in imports if free.issuperset(imports[name])} - free
            self.assertNotEqual(set(), more, "a ring of imports")
            free |= more

    def test_values_at_module_level_are_plain(self):
        plain = (ast.Constant, ast.List, ast.Tuple, ast.Dict, ast.Load)
        for name, _, tree in files():
            functions = {node.name for node in tree.body if isinstance(node, ast.FunctionDef)}
            for node in tree.body:
                if isinstance(node, ast.Assign):
                    for one in ast.walk(node.value):
                        is_function = isinstance(one, ast.Name) and one.id in functions
                        self.assertTrue(is_function or isinstance(one, plain), (name, node.lineno))

    def test_all_that_is_imported_is_used(self):
        for name, _, tree in files():
            used = {node.id for node in ast.walk(tree) if isinstance(node, ast.Name)}
            for node in tree.body:
                if isinstance(node, ast.ImportFrom):
                    self.assertLessEqual({alias.name for alias in node.names}, used, name)

    def test_names(self):
        for name, _, tree in files():
            taken = {alias.name for node in tree.body if isinstance(node, ast.ImportFrom) for alias in node.names}
            taken |= {node.name for node in tree.body if isinstance(node, ast.ClassDef)}
            functions = {node.name for node in tree.body if isinstance(node, ast.FunctionDef)}
            for bound in bound_names(tree):
                self.assertNotIn(bound, taken | functions | BARRED, name)
                self.assertFalse(hasattr(builtins, bound), (name, bound))
            for node in ast.walk(tree):
                if isinstance(node, ast.FunctionDef) and node.name.startswith("__"):
                    self.assertIn(node.name, SPECIAL)
                if isinstance(node, ast.Name) and hasattr(builtins, node.id):
                    self.assertIn(node.id, BUILTINS, name)

    def test_no_barred_words(self):
        for name, _, tree in files():
            for node in ast.walk(tree):
                if isinstance(node, (ast.Name, ast.Attribute)):
                    self.assertNotIn(node.id if isinstance(node, ast.Name) else node.attr, BARRED, name)

    def test_super_is_asked_for_a_method_alone(self):
        for name, text, _ in files():
            for behind in re.findall(r"\bsuper\b(.{4})", text):
                self.assertRegex(behind, r"\(\)\.[a-z]", name)

    def test_no_method_is_an_attribute_too(self):
        methods, attributes = set(), set()
        for _, _, tree in files():
            for node in ast.walk(tree):
                if isinstance(node, ast.ClassDef):
                    own = [one.name for one in node.body if isinstance(one, ast.FunctionDef)]
                    self.assertEqual(len(own), len(set(own)), node.name)
                    methods |= set(own)
                if isinstance(node, ast.Attribute) and isinstance(node.ctx, ast.Store):
                    attributes.add(node.attr)
        self.assertEqual(set(), methods & attributes)

    def test_only_the_own_kind_reads_what_begins_with_an_underscore(self):
        for name, text, _ in files():
            for owner in re.findall(r"(\w+)\._[a-z]", text):
                self.assertIn(owner, ("self", "other"), name)


if __name__ == "__main__":
    unittest.main()
