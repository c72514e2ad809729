"""The package keeps to the subset of the language, as far as a look at its files can tell."""

import ast
import builtins
import pathlib
import re
import unittest
import warnings

PACKAGE = pathlib.Path(__file__).parent.parent / "carryladder"
FILES = sorted(PACKAGE.rglob("*.py"))

BUILTINS = """len range enumerate zip min max sum abs sorted reversed int str bool bytes list tuple dict set frozenset
    isinstance ord repr any all divmod pow Exception ValueError TypeError KeyError IndexError LookupError
    ZeroDivisionError ArithmeticError OverflowError RuntimeError NotImplementedError AttributeError property""".split()

LIBRARY = {"math": ["gcd"]}

METHODS = """append clear copy count endswith extend find get index insert isalnum isalpha isdigit islower isspace
    isupper items join keys ljust lower lstrip partition pop remove replace reverse rfind rjust rpartition rsplit rstrip
    setdefault split splitlines startswith strip update upper values zfill bit_length isascii isdecimal""".split()

BARRED = """register mro elements open input law type typing enum Enum Generic Protocol ABC namedtuple NamedTuple
    TypedDict dataclass overload contextmanager""".split()

STATEMENTS = (ast.Expr, ast.ImportFrom, ast.FunctionDef, ast.ClassDef, ast.Assign)


def tree_of(file):
    return ast.parse(file.read_text())


def nodes_of(file, *kinds):
    return [node for node in ast.walk(tree_of(file)) if isinstance(node, kinds)]


def bound_in(tree):
    """The names that a file binds at module level by itself."""
    names = [node.name for node in tree.body if isinstance(node, (ast.FunctionDef, ast.ClassDef))]
    for node in tree.body:
        if isinstance(node, ast.Assign):
            names.extend([target.id for target in node.targets])
    return names


def imported(file):
    return [(node.module, [name.name for name in node.names]) for node in nodes_of(file, ast.ImportFrom)]


def docstrings(tree):
    found = []
    for node in ast.walk(tree):
        if isinstance(node, (ast.Module, ast.FunctionDef, ast.ClassDef)) and ast.get_docstring(node) is not None:
            found.append(node.body[0].value)
    return found


class FilesTest(unittest.TestCase):
    def test_the_folder_holds_python_files_alone(self):
        kept = [path for path in PACKAGE.rglob("*") if "__pycache__" not in path.parts]
        self.assertEqual(sorted(kept), FILES)
        for file in FILES:
            self.assertRegex(file.name, "^([a-z][a-z0-9_]*|__init__)[.]py$")
            self.assertFalse(file.name.startswith("test"))

    def test_sizes_and_signs(self):
        for file in FILES:
            text = file.read_text()
            self.assertIsNone(re.search("[^ -~\n]", text), file)
            self.assertLessEqual(len(text.split("\n")), 399, file)
            self.assertLessEqual(max([len(line) for line in text.split("\n")]), 120, file)
            for node in nodes_of(file, ast.FunctionDef):
                self.assertLessEqual(node.end_lineno - node.lineno + 1, 40, node.name)

    def test_no_warnings(self):
        with warnings.catch_warnings():
            warnings.simplefilter("error")
            for file in FILES:
                compile(file.read_text(), str(file), "exec")


class ImportsTest(unittest.TestCase):
    def test_imports_name_the_file_that_defines_the_name(self):
        for file in FILES:
            self.assertEqual(nodes_of(file, ast.Import), [], file)
            for module, names in imported(file):
                if module in LIBRARY:
                    self.assertLessEqual(set(names), set(LIBRARY[module]), file)
                    continue
                self.assertTrue(module.startswith("carryladder."), file)
                source = PACKAGE / (module.split(".")[1] + ".py")
                for name in names:
                    self.assertIn(name, bound_in(tree_of(source)), file)

    def test_imports_are_used_and_stand_at_the_top(self):
        for file in FILES:
            used = {node.id for node in nodes_of(file, ast.Name)}
            for node in nodes_of(file, ast.ImportFrom):
                self.assertEqual((node.level, node.col_offset), (0, 0))
                for name in node.names:
                    self.assertIsNone(name.asname)
                    self.assertIn(name.name, used, file)

    def test_no_two_files_import_from_each_other(self):
        reach = {file.stem: {module.split(".")[1] for module, _ in imported(file) if module not in LIBRARY}
                 for file in FILES}
        for _ in reach:
            reach = {name: own.union(*[reach[other] for other in own]) for name, own in reach.items()}
        for name, own in reach.items():
            self.assertNotIn(name, own)


class NamesTest(unittest.TestCase):
    def test_module_level(self):
        for file in FILES:
            tree = tree_of(file)
            for node in tree.body:
                self.assertIsInstance(node, STATEMENTS, file)
            names = bound_in(tree) + [name for _, told in imported(file) for name in told]
            self.assertEqual(len(names), len(set(names)), file)

    def test_builtins(self):
        for file in FILES:
            for node in nodes_of(file, ast.Name):
                if isinstance(node.ctx, ast.Load) and hasattr(builtins, node.id):
                    self.assertIn(node.id, BUILTINS, file)
                if isinstance(node.ctx, ast.Store):
                    self.assertFalse(hasattr(builtins, node.id), node.id)
            for node in nodes_of(file, ast.arg):
                self.assertFalse(hasattr(builtins, node.arg), node.arg)

    def test_methods(self):
        own = [node.name for file in FILES for kind in nodes_of(file, ast.ClassDef) for node in kind.body
               if isinstance(node, ast.FunctionDef)]
        for file in FILES:
            for node in nodes_of(file, ast.Call):
                if isinstance(node.func, ast.Attribute):
                    self.assertIn(node.func.attr, METHODS + own, file)
                    self.assertEqual(node.keywords, [], file)

    def test_locals_have_no_name_of_an_import_or_a_class(self):
        for file in FILES:
            told = {name for _, names in imported(file) for name in names}
            told |= {node.name for node in nodes_of(file, ast.ClassDef)}
            for function in nodes_of(file, ast.FunctionDef):
                held = [node.id for node in ast.walk(function) if isinstance(node, ast.Name)
                        and isinstance(node.ctx, ast.Store)]
                held += [node.arg for node in ast.walk(function) if isinstance(node, ast.arg)]
                self.assertEqual(told & set(held), set(), function.name)

    def test_words_that_are_barred(self):
        for file in FILES:
            for node in ast.walk(tree_of(file)):
                words = [getattr(node, field, None) for field in ("id", "arg", "attr", "name")]
                self.assertFalse(set(BARRED) & {word for word in words if isinstance(word, str)}, file)


class ExpressionsTest(unittest.TestCase):
    def test_no_floats_and_no_slash(self):
        for file in FILES:
            self.assertEqual(nodes_of(file, ast.Div, ast.MatMult), [])
            for node in nodes_of(file, ast.Constant):
                self.assertNotIsInstance(node.value, (float, complex))

    def test_strings(self):
        for file in FILES:
            tree = tree_of(file)
            kept = docstrings(tree)
            for node in ast.walk(tree):
                if isinstance(node, ast.Constant) and isinstance(node.value, str) and node not in kept:
                    self.assertNotIn("%", node.value, file)
                    self.assertFalse(set(BARRED) & set(re.findall("[A-Za-z_]+", node.value)), file)

    def test_statements_and_shapes_that_are_barred(self):
        for file in FILES:
            barred = nodes_of(file, ast.Global, ast.AsyncFunctionDef, ast.AnnAssign, ast.Set, ast.SetComp, ast.Await,
                              ast.GeneratorExp, ast.Yield, ast.YieldFrom, ast.Lambda)
            self.assertEqual(barred, [], file)
            for node in nodes_of(file, ast.FunctionDef, ast.ClassDef):
                told = [decorator.id for decorator in node.decorator_list]
                self.assertIn(told, ([], ["property"]), node.name)

    def test_properties_are_never_assigned(self):
        methods = [node for file in FILES for kind in nodes_of(file, ast.ClassDef) for node in kind.body
                   if isinstance(node, ast.FunctionDef)]
        properties = [node.name for node in methods if node.decorator_list]
        self.assertEqual(sorted(properties), ["edits", "many", "version"])
        for file in FILES:
            for node in nodes_of(file, ast.Attribute):
                if isinstance(node.ctx, ast.Store):
                    self.assertNotIn(node.attr, properties, file)
                    self.assertNotIn(node.attr, [method.name for method in methods], file)

    def test_errors_that_are_caught_are_the_package_s_own(self):
        own = bound_in(tree_of(PACKAGE / "errors.py"))
        for file in FILES:
            for node in nodes_of(file, ast.ExceptHandler):
                self.assertIn(node.type.id, own, file)

    def test_exponents_are_literals(self):
        for file in FILES:
            for node in nodes_of(file, ast.BinOp):
                if isinstance(node.op, ast.Pow):
                    self.assertIsInstance(node.right, ast.Constant, file)

    def test_is_beside_none_and_truths_alone(self):
        for file in FILES:
            for node in nodes_of(file, ast.Compare):
                if any(isinstance(sign, (ast.Is, ast.IsNot)) for sign in node.ops):
                    self.assertIn(node.comparators[0].value, (None, True, False), file)


if __name__ == "__main__":
    unittest.main()
