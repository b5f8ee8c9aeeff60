"""The form of the package: those rules of the language that a small test can see."""

import ast
import builtins
import pathlib
import unittest

FOLDER = pathlib.Path(__file__).resolve().parent.parent / "dirservice"
FILES = sorted(FOLDER.glob("*.py"))
BUILTINS = set(vars(builtins))
ALLOWED_BUILTINS = set("""
    len range enumerate zip min max sum abs sorted reversed int str bool list tuple dict set isinstance ord repr any all
    divmod Exception ValueError TypeError KeyError IndexError LookupError ZeroDivisionError ArithmeticError OverflowError
    RuntimeError NotImplementedError property staticmethod classmethod super
""".split())
ALLOWED_METHODS = set("""
    append clear copy count endswith extend find get index insert isalnum isalpha isdigit islower isspace isupper items
    join keys ljust lower lstrip partition pop remove replace reverse rfind rjust rpartition rsplit rstrip setdefault
    split splitlines startswith strip update upper values zfill
""".split())
ALLOWED_DOUBLE = set("""
    __init__ __eq__ __str__ __repr__ __len__ __contains__ __getitem__ __setitem__ __iter__ __and__ __or__ __neg__
""".split())
BARRED = set("""
    register mro elements open input law version_info with_traceback add_note type typing enum Enum Generic Protocol ABC
    namedtuple args global async print hash id next iter map filter object dir vars eval exec globals locals
""".split())
DEFINITIONS = (ast.FunctionDef, ast.ClassDef)


def tree_of(file):
    return ast.parse(file.read_text(encoding="ascii"))


def defined_names(tree):
    """The names of all functions and classes of a file, methods included."""
    return [node.name for node in ast.walk(tree) if isinstance(node, DEFINITIONS)]


def variables(tree):
    """The names of all parameters and variables of a file."""
    names = [node.arg for node in ast.walk(tree) if isinstance(node, ast.arg)]
    return names + [node.id for node in ast.walk(tree) if isinstance(node, ast.Name) and isinstance(node.ctx, ast.Store)]


def imports_of(tree):
    return [node for node in ast.walk(tree) if isinstance(node, (ast.Import, ast.ImportFrom))]


def module_names(tree):
    """The names that a file itself defines at module level."""
    names = [node.name for node in tree.body if isinstance(node, DEFINITIONS)]
    return names + [node.targets[0].id for node in tree.body if isinstance(node, ast.Assign)]


class TestForm(unittest.TestCase):

    def test_the_folder_contains_only_python_files(self):
        others = [file.name for file in FOLDER.iterdir() if file.suffix != ".py" and file.name != "__pycache__"]
        self.assertEqual(others, [])
        self.assertIn("__init__.py", [file.name for file in FILES])

    def test_sizes_and_characters(self):
        for file in FILES:
            text = file.read_text(encoding="ascii")
            with self.subTest(file.name):
                self.assertTrue(all(sign == "\n" or " " <= sign <= "~" for sign in text))
                self.assertLessEqual(text.count("\n"), 399)
                self.assertLessEqual(max(map(len, text.splitlines())), 120)
                self.assertTrue(text.endswith("\n"))
                self.assertNotIn("%", text)

    def test_functions_have_at_most_forty_lines(self):
        for tree in map(tree_of, FILES):
            for node in ast.walk(tree):
                if isinstance(node, ast.FunctionDef):
                    self.assertLessEqual(node.end_lineno - node.lineno + 1, 40, node.name)

    def test_module_level(self):
        for tree in map(tree_of, FILES):
            for node in tree.body[1:]:
                self.assertIsInstance(node, (ast.ImportFrom, ast.Assign, *DEFINITIONS))
            self.assertIsNotNone(ast.get_docstring(tree))
            names = module_names(tree) + [alias.name for node in imports_of(tree) for alias in node.names]
            self.assertEqual(len(names), len(set(names)))

    def test_imports_name_what_a_file_of_the_package_defines(self):
        defined = {"dirservice." + file.stem: module_names(tree_of(file)) for file in FILES}
        for tree in map(tree_of, FILES):
            for node in imports_of(tree):
                self.assertIsInstance(node, ast.ImportFrom)
                for alias in node.names:
                    self.assertIn(alias.name, defined[node.module])
                    self.assertIsNone(alias.asname)

    def test_no_files_import_from_each_other(self):
        left = {"dirservice." + file.stem: {node.module for node in imports_of(tree_of(file))} for file in FILES}
        while left:
            free = [word for word, needed in left.items() if not needed & set(left)]
            self.assertNotEqual(free, [], f"a circle among {sorted(left)}")
            left = {word: needed for word, needed in left.items() if word not in free}

    def test_names(self):
        for tree in map(tree_of, FILES):
            barred = BUILTINS | BARRED | {alias.name for node in imports_of(tree) for alias in node.names}
            barred |= {node.name for node in tree.body if isinstance(node, ast.ClassDef)}
            self.assertEqual(set(variables(tree)) & barred, set())
            self.assertEqual(set(defined_names(tree)) & (BUILTINS | BARRED), set())

    def test_builtins_and_methods(self):
        own = {node.name for file in FILES for node in ast.walk(tree_of(file)) if isinstance(node, ast.FunctionDef)}
        for tree in map(tree_of, FILES):
            for node in ast.walk(tree):
                if isinstance(node, ast.Name) and node.id in BUILTINS:
                    self.assertIn(node.id, ALLOWED_BUILTINS)
                if isinstance(node, ast.Call) and isinstance(node.func, ast.Attribute):
                    self.assertIn(node.func.attr, own | ALLOWED_METHODS)
                if isinstance(node, ast.FunctionDef) and node.name.startswith("__"):
                    self.assertIn(node.name, ALLOWED_DOUBLE)

    def test_properties_have_names_of_their_own(self):
        methods, properties = set(), set()
        for tree in map(tree_of, FILES):
            for owner in tree.body:
                for node in owner.body if isinstance(owner, ast.ClassDef) else ():
                    if isinstance(node, ast.FunctionDef):
                        shown = [ast.unparse(decorator) for decorator in node.decorator_list]
                        (properties if "property" in shown else methods).add(node.name)
        self.assertEqual(properties & methods, set())

    def test_what_stands_behind_stars_of_calls(self):
        for tree in map(tree_of, FILES):
            for node in ast.walk(tree):
                if isinstance(node, ast.Call):
                    starred = [one.value for one in node.args if isinstance(one, ast.Starred)]
                    for one in starred + [one.value for one in node.keywords if one.arg is None]:
                        self.assertRegex(ast.unparse(one), r"^[a-z_]+(\._[a-z_]+)?$")

    def test_exponents_are_literals(self):
        for tree in map(tree_of, FILES):
            for node in ast.walk(tree):
                if isinstance(node, ast.BinOp) and isinstance(node.op, ast.Pow):
                    self.assertIsInstance(node.right, ast.Constant)

    def test_generators_have_names_of_their_own_and_stand_alone(self):
        generators, others = [], []
        for tree in map(tree_of, FILES):
            for node in ast.walk(tree):
                if isinstance(node, ast.FunctionDef):
                    yields = [one for one in ast.walk(node) if isinstance(one, (ast.Yield, ast.YieldFrom))]
                    (generators if yields else others).append(node)
                    for one in ast.walk(node) if yields else ():
                        self.assertNotIsInstance(one, (ast.Try, ast.With))
        names = [node.name for node in generators]
        self.assertEqual(len(names), len(set(names)))
        self.assertEqual(set(names) & {node.name for node in others}, set())

    def test_finally_only_assigns(self):
        for tree in map(tree_of, FILES):
            for node in ast.walk(tree):
                if isinstance(node, ast.Try):
                    for row in node.finalbody:
                        self.assertRegex(ast.unparse(row), r"^[a-z_.]+ = ([a-z_.]+|None)$")

    def test_what_the_package_does_without(self):
        barred = (ast.GeneratorExp, ast.Lambda, ast.Global, ast.AnnAssign, ast.AsyncFunctionDef, ast.Await, ast.Import,
                  ast.Div, ast.Set)
        for tree in map(tree_of, FILES):
            for node in ast.walk(tree):
                self.assertNotIsInstance(node, barred)
                if isinstance(node, ast.FunctionDef):
                    self.assertIsNone(node.returns)
                    for decorator in node.decorator_list:
                        self.assertIn(ast.unparse(decorator), ("property", "staticmethod", "classmethod"))
                if isinstance(node, ast.arg):
                    self.assertIsNone(node.annotation)
                if isinstance(node, ast.Compare) and isinstance(node.ops[0], (ast.Is, ast.IsNot)):
                    self.assertIn(ast.unparse(node.comparators[0]), ("None", "True", "False"))


if __name__ == "__main__":
    unittest.main()
