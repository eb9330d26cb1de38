"""Rules of LANGUAGE.md that can be seen in the text of the package.

What those rules let only under conditions of its own, and the package has not needed so far, is barred here as well.
"""

import ast
import builtins
import pathlib
import re
import unittest
import warnings

FOLDER = pathlib.Path(__file__).parent.parent / "timesover"
FILES = sorted(FOLDER.glob("*.py"))
BUILTINS = set("""len range enumerate zip min max sum abs sorted reversed int str bool list tuple dict set isinstance
ord repr any all divmod ValueError""".split())
# Of these functions and methods what they return is iterated on the spot, by a loop or one of these.
ONCE = {"zip", "enumerate", "reversed", "range", "items", "keys", "values"}
TAKERS = {"list", "tuple", "dict", "sorted", "sum", "any", "all", "enumerate", "zip", "min", "max"}
METHODS = set("""append clear copy count endswith extend find get index insert isalnum isalpha isdigit islower isspace
isupper items join keys ljust lower lstrip partition pop remove replace reverse rfind rjust rpartition rsplit rstrip
setdefault split splitlines startswith strip update upper values zfill bit_length""".split())
WORDS = set("""type typing typing_extensions enum Enum IntEnum StrEnum Flag IntFlag Generic Protocol ABC ABCMeta
namedtuple NamedTuple TypedDict TYPE_CHECKING abstractmethod register mro elements open input law version_info
with_traceback add_note""".split())
BARRED = (
    ast.AsyncFunctionDef, ast.AsyncFor, ast.AsyncWith, ast.Await, ast.Global, ast.Nonlocal, ast.Import, ast.With,
    ast.Match, ast.Yield, ast.YieldFrom, ast.Lambda, ast.JoinedStr, ast.AnnAssign, ast.NamedExpr, ast.Div,
    ast.Is, ast.IsNot, ast.GeneratorExp, ast.SetComp, ast.Set, ast.Pow, ast.Mod,
)


def trees():
    """Each file of the package with its tree."""
    return [(path, ast.parse(path.read_text())) for path in FILES]


def called(node):
    """The name of the function, or of the method, that is called; none if the node is no call."""
    return getattr(node.func, "id", getattr(node.func, "attr", "")) if isinstance(node, ast.Call) else ""


def own_methods():
    """The methods of all classes of the package."""
    return {row.name for _, tree in trees() for node in tree.body if isinstance(node, ast.ClassDef)
            for row in node.body if isinstance(row, ast.FunctionDef)}


def bound_names(tree):
    """What the rows of a module bind, imports left out."""
    names = [row.name for row in tree.body if isinstance(row, (ast.FunctionDef, ast.ClassDef))]
    return names + [row.targets[0].id for row in tree.body if isinstance(row, ast.Assign)]


class Files(unittest.TestCase):

    def test_only_plain_files(self):
        kept = [path for path in FOLDER.rglob("*") if "__pycache__" not in path.parts]
        self.assertEqual(sorted(kept), FILES)
        self.assertIn(FOLDER / "__init__.py", FILES)
        for path in FILES:
            self.assertRegex(path.name, r"^[a-z0-9_]+\.py$")

    def test_sizes_and_characters(self):
        for path in FILES:
            text = path.read_text()
            self.assertRegex(text, r"\A[ -~\n]*\Z", path.name)
            self.assertLessEqual(text.count("\n"), 399, path.name)
            self.assertLessEqual(max(len(row) for row in text.split("\n")), 120, path.name)
        for path, tree in trees():
            for node in ast.walk(tree):
                if isinstance(node, ast.FunctionDef):
                    self.assertLessEqual(node.end_lineno - node.lineno + 1, 40, (path.name, node.name))

    def test_no_line_for_which_python_warns(self):
        with warnings.catch_warnings():
            warnings.simplefilter("error")
            for path in FILES:
                compile(path.read_text(), str(path), "exec")


class Modules(unittest.TestCase):

    def test_module_level(self):
        for path, tree in trees():
            names = []
            for row in tree.body:
                if isinstance(row, ast.ImportFrom):
                    names += [alias.asname or alias.name for alias in row.names]
                elif isinstance(row, ast.Assign):
                    self.assertEqual(len(row.targets), 1)
                    ast.literal_eval(row.value)
                elif isinstance(row, ast.Expr):
                    self.assertIs(row, tree.body[0])
                else:
                    self.assertIsInstance(row, (ast.FunctionDef, ast.ClassDef), path.name)
            names += bound_names(tree)
            self.assertEqual(len(names), len(set(names)), path.name)

    def test_imports_name_the_file_that_defines_and_are_used(self):
        bound = {"timesover." + path.stem: bound_names(tree) for path, tree in trees()}
        seen = []
        asked = {}
        for path, tree in trees():
            rows = [row for row in ast.walk(tree) if isinstance(row, ast.ImportFrom)]
            asked["timesover." + path.stem] = [row.module for row in rows]
            used = [node.id for node in ast.walk(tree) if isinstance(node, ast.Name)]
            for row in rows:
                self.assertEqual(row.level, 0)
                for alias in row.names:
                    self.assertIsNone(alias.asname)
                    self.assertIn(alias.name, bound[row.module], path.name)
                    self.assertIn(alias.name, used, path.name)
        while asked:
            free = [name for name, modules in asked.items() if all(module in seen for module in modules)]
            self.assertTrue(free, "files import from each other")
            seen += free
            asked = {name: modules for name, modules in asked.items() if name not in free}


class Code(unittest.TestCase):

    def test_what_is_not_used(self):
        for path, tree in trees():
            for node in ast.walk(tree):
                if isinstance(node, (ast.Is, ast.IsNot)):
                    continue
                self.assertNotIsInstance(node, BARRED, (path.name, getattr(node, "lineno", 0)))
                if isinstance(node, (ast.FunctionDef, ast.ClassDef)):
                    self.assertEqual(node.decorator_list, [])
                if isinstance(node, ast.FunctionDef):
                    self.assertEqual((node.returns, node.args.defaults, node.args.posonlyargs), (None, [], []))
                    self.assertEqual((node.args.vararg, node.args.kwarg, node.args.kwonlyargs), (None, None, []))
                    self.assertFalse([argument for argument in node.args.args if argument.annotation])
                if isinstance(node, ast.Constant):
                    self.assertNotIsInstance(node.value, (float, complex))
                if isinstance(node, ast.Constant) and isinstance(node.value, str):
                    self.assertNotIn("%", node.value)

    def test_is_stands_beside_none_alone(self):
        for path, tree in trees():
            for node in ast.walk(tree):
                if isinstance(node, ast.Compare) and isinstance(node.ops[0], (ast.Is, ast.IsNot)):
                    self.assertIsNone(node.comparators[0].value, path.name)

    def test_names(self):
        known = set(dir(builtins)) - {"_"}
        for path, tree in trees():
            for node in ast.walk(tree):
                if isinstance(node, ast.Name) and node.id in known:
                    self.assertIn(node.id, BUILTINS, path.name)
                    self.assertIsInstance(node.ctx, ast.Load, path.name)
                if isinstance(node, ast.arg):
                    self.assertNotIn(node.arg, known, path.name)
                if isinstance(node, ast.FunctionDef):
                    self.assertNotIn(node.name, known, path.name)
            imported = [alias.name for row in tree.body if isinstance(row, ast.ImportFrom) for alias in row.names]
            imported += [row.name for row in tree.body if isinstance(row, ast.ClassDef)]
            local = [node.id for node in ast.walk(tree)
                     if isinstance(node, ast.Name) and isinstance(node.ctx, ast.Store)]
            local += [node.arg for node in ast.walk(tree) if isinstance(node, ast.arg)]
            self.assertFalse(set(imported) & set(local), path.name)

    def test_words(self):
        for path, tree in trees():
            words = [getattr(node, field) for node in ast.walk(tree) for field in ("id", "arg", "name", "attr")
                     if isinstance(getattr(node, field, None), str)]
            self.assertFalse(WORDS & set(words), path.name)
            for word in words:
                self.assertRegex(word, r"^(_|_?[A-Za-z][A-Za-z0-9_]*|__(init|len|eq|contains)__)$")
            self.assertIsNone(re.search(r"dataclass|overload|contextmanager|_wall|_WallAttr", path.read_text()))

    def test_methods_of_builtin_values(self):
        known = METHODS | own_methods()
        for path, tree in trees():
            for node in ast.walk(tree):
                if isinstance(node, ast.Call) and isinstance(node.func, ast.Attribute):
                    self.assertIn(node.func.attr, known, path.name)
                    self.assertEqual(node.keywords, [])

    def test_sets_stand_in_sorted_and_len_alone(self):
        for path, tree in trees():
            inside = [node.args[0] for node in ast.walk(tree)
                      if called(node) in ("sorted", "len") and not node.keywords]
            for node in ast.walk(tree):
                if called(node) == "set":
                    self.assertIn(node, inside, path.name)

    def test_what_is_iterated_at_once(self):
        for path, tree in trees():
            heads = [node.iter for node in ast.walk(tree) if isinstance(node, (ast.For, ast.comprehension))]
            heads += [node.args[0] for node in ast.walk(tree) if called(node) in TAKERS and node.args]
            for node in ast.walk(tree):
                if called(node) in ONCE:
                    self.assertIn(node, heads, (path.name, node.lineno))

    def test_own_errors_alone_are_caught(self):
        own = {row.name for path, tree in trees() if path.name == "errors.py"
               for row in tree.body if isinstance(row, ast.ClassDef)}
        for path, tree in trees():
            for node in ast.walk(tree):
                if isinstance(node, ast.Try):
                    self.assertEqual((node.orelse, node.finalbody), ([], []))
                if isinstance(node, ast.ExceptHandler):
                    caught = node.type.elts if isinstance(node.type, ast.Tuple) else [node.type]
                    self.assertLessEqual({name.id for name in caught}, own, path.name)
                if isinstance(node, ast.Raise):
                    self.assertIn(called(node.exc), own, path.name)

    def test_no_name_is_a_method_and_an_attribute(self):
        stored = {node.attr for _, tree in trees() for node in ast.walk(tree)
                  if isinstance(node, ast.Attribute) and isinstance(node.ctx, ast.Store)}
        self.assertFalse(stored & own_methods())
        self.assertFalse(stored & (METHODS | {"sort", "args", "encode", "decode", "hex", "fromhex", "format"}))
        read = {node.attr for _, tree in trees() for node in ast.walk(tree) if isinstance(node, ast.Attribute)}
        self.assertLessEqual(read, stored | own_methods() | METHODS)
