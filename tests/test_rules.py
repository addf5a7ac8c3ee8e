"""Those rules for the package's files that are easily looked up in their text."""

import ast
import builtins
import pathlib
import re
import unittest

PACKAGE = pathlib.Path(__file__).resolve().parent.parent / "leadlight"
FILES = sorted(PACKAGE.glob("**/*.py"))

# L17: words that stand nowhere, not even in comments.
BARRED = (
    "type typing typing_extensions enum Enum IntEnum StrEnum Flag IntFlag Generic Protocol ABC "
    "ABCMeta namedtuple NamedTuple TypedDict TYPE_CHECKING abstractmethod"
).split()

# L8: the builtins that may be called, but for those that only __main__.py may.
CALLED = (
    "len range enumerate zip min max sum abs sorted reversed int str bool list tuple dict set "
    "frozenset isinstance ord repr any all divmod iter next Exception ValueError TypeError "
    "KeyError IndexError LookupError ZeroDivisionError ArithmeticError OverflowError "
    "RuntimeError NotImplementedError"
).split()

# L25: the methods of builtin values that may be called, but for those that add to sets.
METHODS = (
    "append clear copy count endswith extend find get index insert isalnum isalpha isdigit islower "
    "isspace isupper items join keys ljust lower lstrip partition pop remove replace reverse rfind "
    "rjust rpartition rsplit rstrip setdefault split splitlines startswith strip update upper "
    "values zfill bit_length isdecimal"
).split()

# L5: the double-underscore methods that the package has.
DOUBLE = "__init__ __eq__ __len__ __str__ __repr__".split()

AT_TOP = (ast.Expr, ast.ImportFrom, ast.FunctionDef, ast.ClassDef, ast.Assign)


def trees():
    return [ast.parse(file.read_text(encoding="utf-8"), file.name) for file in FILES]


def imported(tree):
    """The modules of the package that a file imports from."""
    rows = [row for row in ast.walk(tree) if isinstance(row, ast.ImportFrom)]
    return {row.module.removeprefix("leadlight.") for row in rows}


def fixed_names(tree):
    """What a file imports and the classes it has."""
    found = {row.name for row in ast.walk(tree) if isinstance(row, ast.ClassDef)}
    for row in ast.walk(tree):
        if isinstance(row, ast.ImportFrom):
            found |= {one.asname or one.name for one in row.names}
    return found


def bound_names(tree):
    """All names that a file's assignments, loops and parameters bind."""
    found = {row.arg for row in ast.walk(tree) if isinstance(row, ast.arg)}
    stored = [row for row in ast.walk(tree) if isinstance(row, ast.Name)]
    return found | {row.id for row in stored if isinstance(row.ctx, ast.Store)}


def every(kind):
    """All parts of this kind in all files."""
    return [row for tree in trees() for row in ast.walk(tree) if isinstance(row, kind)]


def own_methods():
    rows = [row for kind in every(ast.ClassDef) for row in kind.body]
    return {row.name for row in rows if isinstance(row, ast.FunctionDef)}


def own_attributes():
    return {row.attr for row in every(ast.Attribute) if isinstance(row.ctx, ast.Store)}


class Rules(unittest.TestCase):
    def test_the_package_is_there(self):
        self.assertIn("__init__.py", [file.name for file in FILES])

    def test_nothing_but_plainly_named_files(self):
        for path in PACKAGE.iterdir():
            if path.name != "__pycache__":
                self.assertRegex(path.name, r"\A[a-z0-9_]+\.py\Z")

    def test_signs_and_lengths(self):
        for file in FILES:
            text = file.read_text(encoding="utf-8")
            self.assertRegex(text, r"\A[ -~\n]*\Z")
            self.assertLessEqual(len(text.splitlines()), 400)
            self.assertLessEqual(max(map(len, text.splitlines())), 120)

    def test_barred_words(self):
        for file in FILES:
            text = file.read_text(encoding="utf-8")
            self.assertEqual([word for word in BARRED if re.search(rf"\b{word}\b", text)], [])
            self.assertIsNone(re.search("dataclass|overload|contextmanager", text))

    def test_what_stands_at_module_level(self):
        for tree in trees():
            for row in tree.body:
                self.assertIsInstance(row, AT_TOP)

    def test_imports(self):
        for tree in trees():
            for row in ast.walk(tree):
                self.assertNotIsInstance(row, ast.Import)
                if isinstance(row, ast.ImportFrom):
                    self.assertEqual(row.level, 0)
                    self.assertRegex(row.module, r"\Aleadlight\.[a-z]+\Z")

    def test_no_two_files_import_from_each_other(self):
        left = {file.stem: imported(tree) for file, tree in zip(FILES, trees())}
        while left:
            free = [name for name in left if not left[name] & set(left)]
            self.assertNotEqual(free, [], f"these import from each other: {sorted(left)}")
            left = {name: left[name] for name in left if name not in free}

    def test_no_name_stands_for_two_things(self):
        for tree in trees():
            self.assertEqual(bound_names(tree) & (fixed_names(tree) | set(dir(builtins))), set())
            for name in bound_names(tree):
                self.assertRegex(name, r"\A[A-Za-z]")

    def test_builtins(self):
        for tree in trees():
            for row in ast.walk(tree):
                if isinstance(row, ast.Name) and row.id in dir(builtins):
                    self.assertIn(row.id, CALLED)

    def test_functions(self):
        for tree in trees():
            for row in ast.walk(tree):
                if isinstance(row, ast.FunctionDef):
                    self.assertLessEqual(row.end_lineno - row.lineno + 1, 40)

    def test_methods_and_attributes(self):
        methods, attributes = own_methods(), own_attributes()
        self.assertEqual(methods & attributes, set())
        for row in every(ast.Attribute):
            self.assertIn(row.attr, methods | attributes | set(METHODS) | {"add"})
        for row in every(ast.Call):
            if isinstance(row.func, ast.Attribute):
                self.assertNotIn(row.func.attr, attributes)

    def test_double_underscores(self):
        for row in every(ast.FunctionDef):
            if row.name.startswith("_"):
                self.assertIn(row.name, DOUBLE)
        for row in every(ast.Attribute):
            if row.attr.startswith("_"):
                self.assertEqual(row.attr, "__init__")

    def test_only_own_errors_are_caught_and_each_by_a_name_of_its_own(self):
        own = {row.name for row in every(ast.ClassDef)}
        for row in every(ast.Try):
            self.assertEqual(row.finalbody, [])
            names = [handler.name for handler in row.handlers if handler.name]
            self.assertEqual(len(names), len(set(names)))
            for handler in row.handlers:
                for one in ast.walk(handler.type):
                    if isinstance(one, ast.Name):
                        self.assertIn(one.id, own)

    def test_errors_are_made_where_they_are_raised(self):
        for row in every(ast.Raise):
            self.assertIsInstance(row.exc, ast.Call)
            self.assertEqual(row.exc.keywords, [])

    def test_statements_and_signs_that_are_not_used(self):
        barred = (
            ast.Global, ast.AsyncFunctionDef, ast.Await, ast.Div, ast.Yield, ast.YieldFrom,
            ast.Delete, ast.Match, ast.With, ast.Lambda, ast.GeneratorExp,
        )
        self.assertEqual(every(barred), [])
        for row in every(ast.Constant):
            self.assertNotIsInstance(row.value, float)
            if isinstance(row.value, str):
                self.assertNotIn("%", row.value)

    def test_is_stands_beside_none_and_truths_alone(self):
        for row in every(ast.Compare):
            for sign, beside in zip(row.ops, row.comparators):
                if isinstance(sign, (ast.Is, ast.IsNot)):
                    self.assertIsInstance(beside, ast.Constant)

    def test_what_double_underscore_methods_return(self):
        for row in every(ast.FunctionDef):
            if row.name in ("__str__", "__repr__"):
                self.assertIsInstance(row.body[-1].value, ast.JoinedStr)
            if row.name == "__len__":
                self.assertEqual(row.body[-1].value.func.id, "len")


if __name__ == "__main__":
    unittest.main()
