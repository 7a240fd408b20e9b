"""The form of the package's files: what of shared/LANGUAGE.md a plain look at them can tell."""

import ast
import builtins
import io
import re
import tokenize
import unittest
from pathlib import Path

PACKAGE = Path(__file__).resolve().parent.parent / "barredcrossings"
FILES = sorted(path for path in PACKAGE.rglob("*") if "__pycache__" not in path.parts and path.is_file())
BUILTINS = set(
    "len range enumerate zip min max sum abs sorted reversed int str bool bytes list tuple dict set frozenset "
    "isinstance ord repr any all divmod pow iter next map getattr hasattr setattr super property staticmethod "
    "classmethod Exception ValueError TypeError KeyError IndexError LookupError ZeroDivisionError ArithmeticError "
    "OverflowError RuntimeError NotImplementedError AttributeError StopIteration NotImplemented".split()
)
LIBRARY = {
    "heapq": {"heappush", "heappop", "heapify", "heapreplace", "heappushpop"},
    "math": {"gcd", "lcm", "isqrt", "comb", "perm", "factorial"},
    "itertools": {
        "product", "combinations", "permutations", "chain", "accumulate", "pairwise", "islice", "zip_longest"},
    "collections": {"defaultdict"},
}
BARRED_WORDS = set(
    "type typing typing_extensions enum Enum IntEnum StrEnum Flag IntFlag Generic Protocol ABC ABCMeta namedtuple "
    "NamedTuple TypedDict TYPE_CHECKING abstractmethod dataclass overload contextmanager".split()
)
BARRED_NAMES = set("register mro elements open input law version_info with_traceback add_note".split())
BARRED_NODES = (
    ast.Global, ast.AsyncFunctionDef, ast.AsyncFor, ast.AsyncWith, ast.Await, ast.Div, ast.MatMult,
)
METHODS = set(
    "append clear copy count endswith extend find get index insert isalnum isalpha isdigit islower isspace isupper "
    "items join keys ljust lower lstrip partition pop remove replace reverse rfind rjust rpartition rsplit rstrip "
    "setdefault split splitlines startswith strip update upper values zfill bit_length sort add discard".split()
)


def trees():
    for path in FILES:
        yield path, ast.parse(path.read_text())


def nodes(*kinds):
    for path, tree in trees():
        for node in ast.walk(tree):
            if isinstance(node, kinds):
                yield path, node


def bound_names(tree):
    """All names that a file gives a meaning to."""
    for node in ast.walk(tree):
        if isinstance(node, (ast.FunctionDef, ast.ClassDef)):
            yield node.name
        elif isinstance(node, ast.arg):
            yield node.arg
        elif isinstance(node, ast.Name) and isinstance(node.ctx, ast.Store):
            yield node.id
        elif isinstance(node, ast.ExceptHandler) and node.name:
            yield node.name


class Form(unittest.TestCase):
    def test_files(self):
        self.assertIn(PACKAGE / "__init__.py", FILES)
        for path in FILES:
            self.assertRegex(path.name, r"^([a-z][a-z0-9_]*|__init__|__main__)\.py$")
            self.assertFalse(path.name.startswith("test"), path)
            self.assertNotIn(path.stem, dir(builtins))

    def test_lines_and_characters(self):
        for path in FILES:
            text = path.read_text()
            self.assertRegex(text, r"^[ -~\n]*$", path)
            self.assertTrue(text.endswith("\n"), path)
            lines = text.splitlines()
            self.assertLessEqual(len(lines), 399, path)
            self.assertLessEqual(max(map(len, lines)), 120, path)

    def test_functions_are_short_and_undecorated(self):
        for path, node in nodes(ast.FunctionDef, ast.ClassDef):
            self.assertEqual([ast.unparse(mark) for mark in node.decorator_list], [], (path, node.name))
            if isinstance(node, ast.FunctionDef):
                self.assertLessEqual(node.end_lineno - node.lineno + 1, 40, (path, node.name))
            self.assertTrue(ast.get_docstring(node) or node.name.startswith("__"), (path, node.name))

    def test_imports_name_the_file_that_defines_the_name(self):
        for path, node in nodes(ast.Import):
            self.fail((path, ast.unparse(node)))
        for path, node in nodes(ast.ImportFrom):
            self.assertEqual(node.level, 0, path)
            for name in node.names:
                self.assertIsNone(name.asname, path)
                if node.module in LIBRARY:
                    self.assertIn(name.name, LIBRARY[node.module])
                else:
                    package, file = node.module.split(".")
                    self.assertEqual(package, PACKAGE.name)
                    defined = ast.parse((PACKAGE / f"{file}.py").read_text()).body
                    told = [getattr(row, "name", None) for row in defined]
                    told += [row.targets[0].id for row in defined if isinstance(row, ast.Assign)]
                    self.assertIn(name.name, told, (path, node.module))

    def test_no_two_files_import_from_each_other(self):
        imports = {path.stem: set() for path in FILES}
        for path, node in nodes(ast.ImportFrom):
            if node.module not in LIBRARY:
                imports[path.stem].add(node.module.split(".")[1])
        while imports:
            free = {stem for stem in imports if not imports[stem] & set(imports)}
            self.assertTrue(free, imports)
            imports = {stem: imports[stem] for stem in imports if stem not in free}

    def test_module_level_has_nothing_that_runs(self):
        for path, tree in trees():
            defined = set()
            for at, row in enumerate(tree.body):
                defined.add(getattr(row, "name", None))
                if at == 0:
                    self.assertTrue(isinstance(row, ast.Expr) and isinstance(row.value, ast.Constant), path)
                    continue
                self.assertIsInstance(row, (ast.ImportFrom, ast.FunctionDef, ast.ClassDef, ast.Assign), path)
                if isinstance(row, ast.Assign):
                    self.check_plain(row.value, defined)

    def check_plain(self, value, defined):
        """Only literals, and names of functions that stand above."""
        for node in ast.walk(value):
            self.assertIsInstance(
                node, (ast.Constant, ast.Tuple, ast.List, ast.Dict, ast.Name, ast.Load, ast.UnaryOp, ast.USub))
            if isinstance(node, ast.Name):
                self.assertIn(node.id, defined)

    def test_a_table_holds_no_list_or_dict_and_is_only_read(self):
        for path, tree in trees():
            tables = {
                row.targets[0].id for row in tree.body
                if isinstance(row, ast.Assign) and isinstance(row.value, (ast.Dict, ast.List))
            }
            for row in tree.body:
                if isinstance(row, ast.Assign):
                    for inner in ast.walk(row.value):
                        self.assertTrue(inner is row.value or not isinstance(inner, (ast.Dict, ast.List)), path)
            read = 0
            for node in ast.walk(tree):
                if isinstance(node, ast.Subscript) and isinstance(node.value, ast.Name) and node.value.id in tables:
                    self.assertIsInstance(node.ctx, ast.Load, (path, node.lineno))
                    read += 1
                if isinstance(node, ast.Attribute) and isinstance(node.value, ast.Name) and node.value.id in tables:
                    self.assertEqual(node.attr, "get", (path, node.lineno))
                    read += 1
            named = [node for node in ast.walk(tree) if isinstance(node, ast.Name) and node.id in tables]
            self.assertEqual(len(named), read + len(tables), path)

    def test_only_allowed_statements_and_signs(self):
        for path, node in nodes(*BARRED_NODES):
            self.fail((path, node))
        for path, node in nodes(ast.Constant):
            self.assertNotIsInstance(node.value, (float, complex), (path, node.lineno))
            if isinstance(node.value, str):
                self.assertNotIn("%", node.value, (path, node.lineno))
        for path, node in nodes(ast.GeneratorExp, ast.Set):
            self.fail((path, node.lineno))

    def test_names(self):
        for path, tree in trees():
            for name in bound_names(tree):
                self.assertRegex(name, r"^(_|_?[A-Za-z][A-Za-z0-9_]*|__[a-z]+__)$", path)
                self.assertNotIn(name, dir(builtins), path)
                self.assertNotIn(name, BARRED_NAMES, path)
                self.assertFalse(name.startswith("_wall"), path)
            bound = set(bound_names(tree))
            bound |= {name.name for node in ast.walk(tree) if isinstance(node, ast.ImportFrom) for name in node.names}
            for node in ast.walk(tree):
                if isinstance(node, ast.Name) and isinstance(node.ctx, ast.Load):
                    self.assertIn(node.id, bound | BUILTINS, (path, node.lineno))

    def test_no_variable_has_the_name_of_an_import_or_a_class(self):
        for path, tree in trees():
            taken = {name.name for node in ast.walk(tree) if isinstance(node, ast.ImportFrom) for name in node.names}
            taken |= {node.name for node in ast.walk(tree) if isinstance(node, ast.ClassDef)}
            for node in ast.walk(tree):
                if isinstance(node, ast.arg):
                    self.assertNotIn(node.arg, taken, path)
                elif isinstance(node, ast.Name) and isinstance(node.ctx, ast.Store):
                    self.assertNotIn(node.id, taken, path)

    def test_methods_of_builtin_values(self):
        own = {node.name for _, node in nodes(ast.FunctionDef)}
        for path, node in nodes(ast.Call):
            if isinstance(node.func, ast.Attribute):
                self.assertIn(node.func.attr, METHODS | own, (path, node.lineno))

    def test_words_that_stand_nowhere(self):
        for path in FILES:
            for token in tokenize.generate_tokens(io.StringIO(path.read_text()).readline):
                if token.type != tokenize.COMMENT and not token.string.startswith('"""'):
                    self.assertFalse(BARRED_WORDS & set(re.findall(r"\w+", token.string)), (path, token.start))

    def test_classes(self):
        allowed = {"__init__", "__eq__", "__len__", "__iter__"}
        for path, node in nodes(ast.ClassDef):
            for row in node.body:
                if isinstance(row, ast.Expr):
                    self.assertIs(row, node.body[0], (path, row.lineno))
                    continue
                self.assertIsInstance(row, ast.FunctionDef, (path, row.lineno))
                self.assertEqual(row.args.args[0].arg, "self", (path, row.name))
                if row.name.startswith("__"):
                    self.assertIn(row.name, allowed, (path, row.name))
                else:
                    self.assertNotIn(row.name, BUILTINS | METHODS, (path, row.name))
        names = [node.name for _, node in nodes(ast.ClassDef)]
        self.assertEqual(len(names), len(set(names)))

    def test_attributes_are_assigned_by_some_class_and_are_no_methods(self):
        assigned, methods = set(), set()
        for _, node in nodes(ast.ClassDef):
            own = {row.name for row in node.body if isinstance(row, ast.FunctionDef)}
            told = {
                inner.attr for inner in ast.walk(node)
                if isinstance(inner, ast.Attribute) and isinstance(inner.ctx, ast.Store)
            }
            self.assertFalse(own & told, node.name)
            methods |= own
            assigned |= told
        for path, node in nodes(ast.Attribute):
            self.assertIn(node.attr, assigned | methods | METHODS, (path, node.lineno))
            if isinstance(node.ctx, ast.Store):
                self.assertIsInstance(node.value, ast.Name, (path, node.lineno))

    def test_handlers_catch_own_errors_alone(self):
        errors = ast.parse((PACKAGE / "errors.py").read_text())
        own = {node.name for node in ast.walk(errors) if isinstance(node, ast.ClassDef)}
        for path, node in nodes(ast.Try):
            names = [handler.name for handler in node.handlers if handler.name]
            self.assertEqual(len(names), len(set(names)), (path, node.lineno))
            for handler in node.handlers:
                self.assertIsInstance(handler.type, ast.Name, (path, node.lineno))
                self.assertIn(handler.type.id, own, (path, node.lineno))

    def test_no_combinations_beside_a_class_that_has_a_length(self):
        for path, node in nodes(ast.ImportFrom):
            if node.module == "itertools":
                for name in node.names:
                    self.assertNotIn(name.name, ("product", "combinations", "permutations"), path)

    def test_each_error_that_is_raised_is_made_on_the_spot(self):
        for path, node in nodes(ast.Raise):
            self.assertIsInstance(node.exc, ast.Call, (path, node.lineno))
            self.assertIsInstance(node.exc.func, ast.Name, (path, node.lineno))


if __name__ == "__main__":
    unittest.main()
