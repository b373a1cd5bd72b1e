"""The rules of the language that a test can see: sizes, names, imports, words."""

import ast
import builtins
import io
import pathlib
import re
import tokenize
import unittest

PACKAGE = pathlib.Path(__file__).resolve().parent.parent / "chipstack"
FILES = sorted(PACKAGE.rglob("*.py"))
LIBRARY = {"heapq": ("heappush", "heappop"), "math": ("gcd",), "itertools": ("product",)}
BUILTINS = ("len range enumerate zip min max sum abs sorted reversed int str bool list tuple dict set isinstance ord repr "
            "any all ValueError").split()
METHODS = ("append clear copy count endswith extend find get index insert isalnum isalpha isdigit islower isspace isupper "
           "items join keys ljust lower lstrip partition pop remove replace reverse rfind rjust rpartition rsplit rstrip "
           "setdefault split splitlines startswith strip update upper values zfill bit_length").split()
NEVER = ("mro elements open input law version_info with_traceback add_note register attrgetter breakpoint builtins compile "
         "copyright credits delattr dir eval exec exit gc getattr globals hasattr help id importlib license locals "
         "methodcaller os quit setattr super type vars sys").split()


def trees():
    """Return (path, tree) of all files."""
    return [(path, ast.parse(path.read_text())) for path in FILES]


def bound_names(tree):
    """Return all names that a file binds: functions, classes, parameters and variables."""
    for node in ast.walk(tree):
        if isinstance(node, (ast.FunctionDef, ast.ClassDef)):
            yield node.name
        elif isinstance(node, ast.arg):
            yield node.arg
        elif isinstance(node, ast.Name) and not isinstance(node.ctx, ast.Load):
            yield node.id


class FilesTest(unittest.TestCase):
    def test_files(self):
        self.assertTrue(FILES)
        for path in PACKAGE.rglob("*"):
            if "__pycache__" not in path.parts:
                self.assertRegex(path.name, r"^[a-z0-9_]+\.py$")

    def test_sizes_and_characters(self):
        for path in FILES:
            text = path.read_text()
            self.assertLess(len(text.split("\n")), 401, path)
            self.assertEqual(re.findall(r"[^ -~\n]", text), [], path)
            self.assertEqual(re.findall("_wall|_WallAttr|dataclass|overload|contextmanager", text), [], path)
            for number, line in enumerate(text.split("\n"), 1):
                self.assertLessEqual(len(line), 120, (path, number))

    def test_functions_are_small(self):
        for path, tree in trees():
            for node in ast.walk(tree):
                if isinstance(node, ast.FunctionDef):
                    self.assertLessEqual(node.end_lineno - node.lineno + 1, 40, (path, node.name))
                    self.assertEqual(node.decorator_list, [])

    def test_every_function_and_class_is_told_of(self):
        for path, tree in trees():
            for node in ast.walk(tree):
                if isinstance(node, (ast.Module, ast.ClassDef)) or (
                        isinstance(node, ast.FunctionDef) and node.name != "__init__"):
                    self.assertTrue(ast.get_docstring(node), (path, getattr(node, "name", "")))


class ImportsTest(unittest.TestCase):
    def test_imports_name_the_very_file(self):
        defined = {}
        for path, tree in trees():
            names = [node.name for node in tree.body if isinstance(node, (ast.FunctionDef, ast.ClassDef))]
            names += [node.targets[0].id for node in tree.body if isinstance(node, ast.Assign)]
            self.assertEqual(len(set(names)), len(names))
            defined["chipstack." + path.stem] = names
        for path, tree in trees():
            for node in ast.walk(tree):
                self.assertNotIsInstance(node, ast.Import)
                if isinstance(node, ast.ImportFrom):
                    self.assertIn(node, tree.body)
                    for one in node.names:
                        self.assertIsNone(one.asname)
                        self.assertIn(one.name, {**defined, **LIBRARY}[node.module])

    def test_no_two_files_import_from_each_other(self):
        reads = {path.stem: [node.module.split(".")[-1] for node in tree.body if isinstance(node, ast.ImportFrom)
                             and node.module.startswith("chipstack.")] for path, tree in trees()}
        done = []
        while len(done) < len(reads):
            ready = [name for name in reads if name not in done and all(one in done for one in reads[name])]
            self.assertTrue(ready, "files import from each other")
            done.extend(ready)

    def test_imports_are_used(self):
        for path, tree in trees():
            used = [node.id for node in ast.walk(tree) if isinstance(node, ast.Name)]
            for node in tree.body:
                if isinstance(node, ast.ImportFrom):
                    for one in node.names:
                        self.assertIn(one.name, used, path)


class NamesTest(unittest.TestCase):
    def test_no_name_is_a_builtin(self):
        for path, tree in trees():
            for name in bound_names(tree):
                if name not in ("values", "index", "count", "__init__"):
                    self.assertFalse(hasattr(builtins, name), (path, name))
                self.assertNotIn(name, NEVER, path)
                self.assertFalse(name.startswith("_") and name not in ("_", "__init__"), (path, name))

    def test_no_local_has_the_name_of_a_class_or_an_import(self):
        for path, tree in trees():
            taken = [node.name for node in tree.body if isinstance(node, ast.ClassDef)]
            taken += [one.name for node in tree.body if isinstance(node, ast.ImportFrom) for one in node.names]
            for part in tree.body:
                for node in ast.walk(part):
                    if isinstance(node, ast.arg) or (isinstance(node, ast.Name) and not isinstance(node.ctx, ast.Load)):
                        self.assertNotIn(getattr(node, "arg", None) or node.id, taken, path)

    def test_only_some_builtins_are_used(self):
        for path, tree in trees():
            for node in ast.walk(tree):
                if isinstance(node, ast.Name) and isinstance(node.ctx, ast.Load) and hasattr(builtins, node.id):
                    self.assertIn(node.id, BUILTINS, path)

    def test_no_name_is_a_method_and_an_attribute(self):
        methods, attributes = set(), set()
        for path, tree in trees():
            for node in ast.walk(tree):
                if isinstance(node, ast.ClassDef):
                    methods.update(one.name for one in node.body if isinstance(one, ast.FunctionDef))
                if isinstance(node, ast.Attribute) and isinstance(node.ctx, ast.Store):
                    attributes.add(node.attr)
        self.assertEqual(methods & attributes, set())
        self.assertEqual(attributes & set(METHODS), set())
        for path, tree in trees():
            for node in ast.walk(tree):
                if isinstance(node, ast.Call) and isinstance(node.func, ast.Attribute):
                    self.assertIn(node.func.attr, methods | set(METHODS), path)
                elif isinstance(node, ast.Attribute) and node.attr not in methods | set(METHODS):
                    self.assertIn(node.attr, attributes, path)

    def test_methods_named_as_those_of_tables_are_not_called_with_arguments(self):
        for path, tree in trees():
            for node in ast.walk(tree):
                if isinstance(node, ast.Call) and getattr(node.func, "attr", "") in ("items", "keys", "values"):
                    self.assertEqual((node.args, node.keywords), ([], []), path)


class WordsTest(unittest.TestCase):
    def test_statements_and_expressions(self):
        barred = (ast.Global, ast.AsyncFunctionDef, ast.Lambda, ast.Yield, ast.YieldFrom, ast.NamedExpr, ast.With, ast.Set,
                  ast.Assert, ast.AnnAssign, ast.Div, ast.Pow)
        for path, tree in trees():
            for node in ast.walk(tree):
                self.assertNotIsInstance(node, barred, path)
                if isinstance(node, ast.Constant):
                    self.assertNotIsInstance(node.value, (float, complex, bytes))

    def test_sets_stand_in_sorted_or_len(self):
        for path, tree in trees():
            inside = [node.args[0] for node in ast.walk(tree) if isinstance(node, ast.Call)
                      and isinstance(node.func, ast.Name) and node.func.id in ("sorted", "len") and not node.keywords]
            for node in ast.walk(tree):
                if isinstance(node, ast.SetComp) or (isinstance(node, ast.Call) and getattr(node.func, "id", "") == "set"):
                    self.assertIn(node, inside, path)

    def test_views_are_iterated_at_once(self):
        for path, tree in trees():
            inside = []
            for node in ast.walk(tree):
                if isinstance(node, (ast.For, ast.comprehension)):
                    inside.append(node.iter)
                if isinstance(node, ast.Call) and getattr(node.func, "id", "") in (
                        "list", "tuple", "dict", "sorted", "sum", "any", "all", "enumerate", "zip"):
                    inside.extend(node.args[:1])
            for node in ast.walk(tree):
                if isinstance(node, ast.Call) and (getattr(node.func, "id", "") in ("zip", "enumerate", "reversed", "range")
                                                   or getattr(node.func, "attr", "") in ("items", "keys", "values")):
                    self.assertIn(node, inside, (path, node.lineno))

    def test_strings(self):
        for path, tree in trees():
            for node in ast.walk(tree):
                if isinstance(node, ast.Constant) and isinstance(node.value, str):
                    self.assertNotIn(chr(37), node.value, path)

    def test_no_two_strings_stand_side_by_side(self):
        for path in FILES:
            kinds = [token.type for token in tokenize.generate_tokens(io.StringIO(path.read_text()).readline)
                     if token.type not in (tokenize.NL, tokenize.COMMENT)]
            self.assertNotIn((tokenize.STRING, tokenize.STRING), list(zip(kinds, kinds[1:])), path)

    def test_errors_that_are_caught_or_raised(self):
        for path, tree in trees():
            for node in ast.walk(tree):
                if isinstance(node, ast.ExceptHandler):
                    for one in node.type.elts if isinstance(node.type, ast.Tuple) else [node.type]:
                        self.assertIn(one.id, ("ChipError", "PlanError", "GateError", "PlaceError", "CodeError", "KeyError"), path)
                if isinstance(node, ast.Raise) and node.exc is not None:
                    self.assertRegex(node.exc.func.id, "^(Plan|Gate|Place|Bit|Code|Run)Error$")

    def test_module_level(self):
        for path, tree in trees():
            for node in tree.body:
                self.assertIsInstance(node, (ast.Expr, ast.ImportFrom, ast.FunctionDef, ast.ClassDef, ast.Assign), path)
                if isinstance(node, ast.Expr):
                    self.assertIsInstance(node.value, ast.Constant)
                if isinstance(node, ast.Assign):
                    self.assertRegex(node.targets[0].id, "^[A-Z][A-Z_]*$")


if __name__ == "__main__":
    unittest.main()
