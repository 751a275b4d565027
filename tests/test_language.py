"""The subset of Python: what of ../shared/LANGUAGE.md can be asked of the files by simple means."""

import ast
import builtins
import pathlib
import re
import unittest

FOLDER = pathlib.Path(__file__).resolve().parent.parent / "passednames"
FILES = sorted(FOLDER.glob("*.py"))
TREES = {file.stem: ast.parse(file.read_text()) for file in FILES}

BUILTINS = set(
    "len range enumerate zip min max sum abs sorted reversed int str bool bytes list tuple dict set frozenset isinstance ord "
    "repr any all divmod pow getattr hasattr setattr Exception ValueError TypeError KeyError IndexError LookupError "
    "ZeroDivisionError ArithmeticError OverflowError RuntimeError NotImplementedError AttributeError StopIteration "
    "NotImplemented iter next map type super property staticmethod classmethod".split())
METHODS = set(
    "append clear copy count endswith extend find get index insert isalnum isalpha isdigit islower isspace isupper items join "
    "keys ljust lower lstrip partition pop remove replace reverse rfind rjust rpartition rsplit rstrip setdefault split "
    "splitlines startswith strip update upper values zfill bit_length add discard".split())
NOWHERE = set("register mro elements open input law version_info with_traceback add_note".split())
IN_NO_FILE = set(
    "type typing typing_extensions enum Enum IntEnum StrEnum Flag IntFlag Generic Protocol ABC ABCMeta namedtuple NamedTuple "
    "TypedDict TYPE_CHECKING abstractmethod".split())
STATEMENTS = (
    ast.Assign, ast.AugAssign, ast.If, ast.While, ast.For, ast.Return, ast.Break, ast.Continue, ast.Pass, ast.Raise,
    ast.Assert, ast.Delete, ast.Nonlocal, ast.Expr, ast.FunctionDef, ast.ClassDef, ast.ImportFrom, ast.Try)


def named(tree, kind):
    return [node for node in ast.walk(tree) if isinstance(node, kind)]


def bound_in(function):
    """The names of the parameters and local variables of a function."""
    names = {node.id for node in named(function, ast.Name) if isinstance(node.ctx, ast.Store)}
    return names | {node.arg for node in named(function, ast.arg)}


class Language(unittest.TestCase):

    def test_one_folder_of_plain_files(self):
        for path in FOLDER.iterdir():
            if path.name != "__pycache__":
                self.assertRegex(path.name, r"^[a-z_0-9]+\.py$")
        self.assertIn("__init__", TREES)

    def test_characters_and_sizes(self):
        for file in FILES:
            text = file.read_text()
            self.assertRegex(text, r"\A[ -~\n]*\Z", file)
            lines = text.split("\n")
            self.assertLessEqual(len(lines), 399, file)
            self.assertLessEqual(max(len(line) for line in lines), 120, file)
            for function in named(TREES[file.stem], ast.FunctionDef):
                self.assertLessEqual(function.end_lineno - function.lineno + 1, 40, function.name)

    def test_imports(self):
        for stem, tree in TREES.items():
            self.assertEqual(named(tree, ast.Import), [])
            for node in named(tree, ast.ImportFrom):
                self.assertIn(node, tree.body)
                self.assertEqual(node.level, 0)
                package, _, module = node.module.partition(".")
                self.assertEqual(package, "passednames", stem)
                defined = {each.name for each in TREES[module].body if isinstance(each, (ast.FunctionDef, ast.ClassDef))}
                defined |= {target.id for each in TREES[module].body if isinstance(each, ast.Assign) for target in each.targets}
                for alias in node.names:
                    self.assertIsNone(alias.asname)
                    self.assertIn(alias.name, defined, stem)

    def test_every_import_is_used(self):
        for stem, tree in TREES.items():
            used = {node.id for node in named(tree, ast.Name)}
            for node in named(tree, ast.ImportFrom):
                for alias in node.names:
                    self.assertIn(alias.name, used, stem)

    def test_no_two_files_import_each_other(self):
        below = {stem: {node.module.split(".")[1] for node in named(tree, ast.ImportFrom)} for stem, tree in TREES.items()}
        done = set()
        while len(done) < len(below):
            ready = {stem for stem in below if stem not in done and below[stem] <= done}
            self.assertTrue(ready, below)
            done |= ready

    def test_module_level(self):
        for stem, tree in TREES.items():
            kinds = (ast.ImportFrom, ast.FunctionDef, ast.ClassDef, ast.Assign, ast.Expr)
            names = []
            for node in tree.body:
                self.assertIsInstance(node, kinds, stem)
                if isinstance(node, ast.Expr):
                    self.assertIsInstance(node.value, ast.Constant)
                if isinstance(node, ast.Assign):
                    self.assertEqual([type(target) for target in node.targets], [ast.Name])
                    names.append(node.targets[0].id)
                elif isinstance(node, ast.ImportFrom):
                    names += [alias.name for alias in node.names]
                elif isinstance(node, (ast.FunctionDef, ast.ClassDef)):
                    names.append(node.name)
            self.assertEqual(len(names), len(set(names)), stem)

    def test_statements_and_expressions(self):
        for stem, tree in TREES.items():
            for node in ast.walk(tree):
                if isinstance(node, ast.stmt):
                    self.assertIsInstance(node, STATEMENTS, f"{stem} {node.lineno}")
                self.assertNotIsInstance(node, (ast.GeneratorExp, ast.Yield, ast.YieldFrom, ast.Div, ast.Await), stem)
                if isinstance(node, ast.Constant):
                    self.assertNotIsInstance(node.value, (float, complex), stem)
                if isinstance(node, ast.Compare) and any(isinstance(sign, (ast.Is, ast.IsNot)) for sign in node.ops):
                    self.assertIn(node.comparators[0].value, (None, True, False))
                if isinstance(node, ast.FunctionDef):
                    self.assertEqual(node.decorator_list, [])

    def test_sets_stand_where_they_may(self):
        for stem, tree in TREES.items():
            let = set()
            for node in named(tree, ast.Call):
                if isinstance(node.func, ast.Name) and node.func.id in ("sorted", "len"):
                    let |= {id(argument) for argument in node.args}
            for node in ast.walk(tree):
                if isinstance(node, (ast.Set, ast.SetComp)) or (
                        isinstance(node, ast.Call) and isinstance(node.func, ast.Name) and node.func.id == "set"):
                    self.assertIn(id(node), let, f"{stem} {node.lineno}")

    def test_names(self):
        every = set(dir(builtins)) - {"__name__", "__doc__"}
        for stem, tree in TREES.items():
            top = {node.name for node in tree.body if isinstance(node, (ast.FunctionDef, ast.ClassDef))}
            top |= {target.id for node in tree.body if isinstance(node, ast.Assign) for target in node.targets}
            imported = {alias.name for node in named(tree, ast.ImportFrom) for alias in node.names}
            classes = {node.name for node in named(tree, ast.ClassDef)}
            self.assertEqual((top | imported) & every, set(), stem)
            for function in named(tree, ast.FunctionDef):
                bound = bound_in(function)
                self.assertEqual(bound & every, set(), function.name)
                self.assertEqual(bound & (imported | classes | top), set(), function.name)
                read = {node.id for node in named(function, ast.Name) if isinstance(node.ctx, ast.Load)}
                self.assertEqual(read - bound - top - imported - BUILTINS, set(), function.name)
                self.assertNotIn("_", read)
            for name in top | imported | {node.attr for node in named(tree, ast.Attribute)}:
                self.assertNotIn(name, NOWHERE)

    def test_methods_and_keywords_of_builtins(self):
        for stem, tree in TREES.items():
            own = {node.name for each in named(tree, ast.ClassDef) for node in each.body if isinstance(node, ast.FunctionDef)}
            for node in named(tree, ast.Call):
                if isinstance(node.func, ast.Attribute):
                    self.assertIn(node.func.attr, METHODS | own, f"{stem} {node.lineno}")
                elif node.func.id in BUILTINS:
                    self.assertLessEqual({each.arg for each in node.keywords}, {"key", "reverse", "default"})

    def test_zips_and_their_kind_are_iterated_at_once(self):
        takers = ("list", "tuple", "dict", "sorted", "sum", "any", "all", "enumerate", "zip", "min", "max")
        for stem, tree in TREES.items():
            let = {id(node.iter) for node in named(tree, (ast.For, ast.comprehension))}
            for node in named(tree, ast.Call):
                if isinstance(node.func, ast.Name) and node.func.id in takers:
                    let.update(id(argument) for argument in node.args[:1])
                if isinstance(node.func, ast.Name) and node.func.id == "zip":
                    let.update(id(argument) for argument in node.args)
            for node in named(tree, ast.Call):
                word = node.func.id if isinstance(node.func, ast.Name) else node.func.attr
                if word in ("zip", "enumerate", "reversed", "range", "items", "keys", "values"):
                    self.assertIn(id(node), let, f"{stem} {node.lineno}")

    def test_words_that_stand_in_no_file(self):
        for stem, tree in TREES.items():
            words = set()
            for node in ast.walk(tree):
                for field in ("id", "attr", "arg", "name"):
                    words.add(getattr(node, field, None))
                if isinstance(node, ast.Constant) and isinstance(node.value, str):
                    self.assertNotIn("%", node.value)
            self.assertEqual(words & IN_NO_FILE, set(), stem)
            self.assertIsNone(re.search(r"dataclass|overload|contextmanager|_wall|metaclass", (FOLDER / f"{stem}.py").read_text()))

    def test_only_own_errors_are_caught(self):
        own = {node.name for node in named(TREES["errors"], ast.ClassDef)}
        for stem, tree in TREES.items():
            for node in named(tree, ast.Try):
                self.assertEqual((node.finalbody, node.orelse), ([], []))
            for node in named(tree, ast.ExceptHandler):
                self.assertIsNone(node.name)
                caught = node.type.elts if isinstance(node.type, ast.Tuple) else [node.type]
                self.assertLessEqual({each.id for each in caught}, own, stem)

    def test_error_classes(self):
        for node in named(TREES["errors"], ast.ClassDef):
            self.assertEqual([base.id for base in node.bases], ["ValueError" if node.name == "PassError" else "PassError"])

    def test_everything_says_what_it_is_for(self):
        for stem, tree in TREES.items():
            self.assertTrue(ast.get_docstring(tree), stem)
            for node in named(tree, (ast.FunctionDef, ast.ClassDef)):
                if not node.name.startswith("__"):
                    self.assertTrue(ast.get_docstring(node), f"{stem} {node.name}")

    def test_classes(self):
        for stem, tree in TREES.items():
            for each in named(tree, ast.ClassDef):
                methods = {node.name: node for node in each.body if isinstance(node, ast.FunctionDef)}
                attributes = {node.attr for node in named(each, ast.Attribute) if isinstance(node.ctx, ast.Store)}
                self.assertEqual(attributes & set(methods), set(), each.name)
                builtin = {name for kind in (str, int, list, dict, set, bytes, tuple) for name in dir(kind)}
                self.assertEqual(attributes & (builtin - set("count index title find get join lower upper split strip copy add".split())), set())
                self.assertEqual(set(methods) & {name for name in builtin if not name.startswith("__")}, {"copy"} & set(methods))
                for node in each.body:
                    self.assertIsInstance(node, (ast.FunctionDef, ast.Expr), each.name)
                for name, node in methods.items():
                    self.assertEqual(node.args.args[0].arg, "self")
                    if not name.startswith("__"):
                        self.assertNotIn(name, METHODS - {"copy"}, each.name)
                        continue
                    self.assertIn(name, ("__init__", "__eq__", "__len__", "__iter__", "__str__"))
                    if name != "__init__":
                        self.assertIsInstance(node.body[-1], ast.Return)
                        self.assertEqual([inner for inner in ast.walk(node) if isinstance(inner, (ast.Assign, ast.AugAssign))], [])
                    if name in ("__len__", "__iter__"):
                        self.assertRegex(ast.unparse(node.body[0]), r"^return (len|iter)\(self\.[a-z_]+\)$")
                    if name == "__str__":
                        self.assertRegex(ast.unparse(node.body[0]), r"^return '.*'\.join\(self\.[a-z_]+\)$")

    def test_tables_at_module_level_are_plain(self):
        for stem, tree in TREES.items():
            above = set()
            for node in tree.body:
                if isinstance(node, ast.Assign):
                    for inner in ast.walk(node.value):
                        self.assertIsInstance(inner, (ast.Constant, ast.Tuple, ast.Dict, ast.Name, ast.BinOp, ast.Pow, ast.Load), stem)
                        if isinstance(inner, ast.Name):
                            self.assertIn(inner.id, above, stem)
                if isinstance(node, ast.FunctionDef):
                    above.add(node.name)
