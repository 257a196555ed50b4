"""The rules of the language that a reader of the files can hold them against: not all of them, but the plain ones."""

import ast
import builtins
import pathlib
import unittest

FOLDER = pathlib.Path(__file__).resolve().parent.parent / "markseam"
FILES = sorted(FOLDER.glob("*.py"))
BUILTINS = set(
    "len range enumerate zip min max sum abs sorted reversed int str bool list tuple dict set isinstance ord repr any"
    " all divmod super Exception ValueError TypeError KeyError IndexError LookupError".split())
METHODS = set(
    "append clear copy count endswith extend find get index insert items join keys ljust lower lstrip partition pop"
    " remove replace reverse rfind rjust setdefault split splitlines startswith strip update upper values zfill"
    " isdigit isalpha isalnum isascii".split())
BARRED_NODES = (
    ast.Global, ast.AsyncFunctionDef, ast.AsyncFor, ast.AsyncWith, ast.Await, ast.GeneratorExp, ast.Yield,
    ast.YieldFrom, ast.Div, ast.MatMult, ast.Import, ast.Try, ast.Set, ast.AnnAssign)
BARRED_NAMES = set("register mro elements open input law version_info with_traceback add_note".split())
BARRED_WORDS = set(
    "type typing enum Enum Flag Generic Protocol ABC namedtuple NamedTuple TypedDict abstractmethod".split())
CHANGING = set("append clear extend insert pop remove reverse setdefault update".split())
BARRED_ATTRIBUTES = set(
    "items keys values pop update append clear extend insert remove reverse setdefault sort args encode decode hex"
    " fromhex format format_map mro".split())
METHOD_NAMES = set("__init__ __eq__ __len__ __str__".split())


def trees():
    return [(path, ast.parse(path.read_text())) for path in FILES]


def bound_names(tree):
    """All names that a file binds somewhere: functions, classes, parameters, variables, imports."""
    names = {node.id for node in ast.walk(tree) if isinstance(node, ast.Name) and not isinstance(node.ctx, ast.Load)}
    names |= {node.arg for node in ast.walk(tree) if isinstance(node, ast.arg)}
    names |= {node.name for node in ast.walk(tree) if isinstance(node, (ast.FunctionDef, ast.ClassDef))}
    return names | {one.name for node in ast.walk(tree) if isinstance(node, ast.ImportFrom) for one in node.names}


def module_names(tree):
    """The classes of a file, and what it imports."""
    names = {node.name for node in tree.body if isinstance(node, ast.ClassDef)}
    return names | {one.name for node in tree.body if isinstance(node, ast.ImportFrom) for one in node.names}


def inner_names(function):
    """The names that a function binds: its parameters and its variables."""
    names = {node.arg for node in ast.walk(function) if isinstance(node, ast.arg)}
    return names | {node.id for node in ast.walk(function)
                    if isinstance(node, ast.Name) and isinstance(node.ctx, ast.Store)}


def changed_things(body):
    """What statements change: by a method that changes, or by an item that is assigned or deleted."""
    for statement in body:
        for node in ast.walk(statement):
            if isinstance(node, ast.Call) and isinstance(node.func, ast.Attribute) and node.func.attr in CHANGING:
                yield ast.unparse(node.func.value)
            if isinstance(node, ast.Subscript) and not isinstance(node.ctx, ast.Load):
                yield ast.unparse(node.value)


def defined_names(tree):
    """The names that a file defines at module level."""
    names = {node.name for node in tree.body if isinstance(node, (ast.FunctionDef, ast.ClassDef))}
    return names | {node.targets[0].id for node in tree.body if isinstance(node, ast.Assign)}


class Language(unittest.TestCase):
    def test_the_folder_has_plain_files_alone(self):
        names = [path.name for path in FOLDER.iterdir() if path.name != "__pycache__"]
        self.assertEqual(sorted(names), [path.name for path in FILES])
        self.assertIn("__init__.py", names)
        for name in names:
            self.assertRegex(name, r"\A[a-z_]+\.py\Z")
            self.assertNotIn(name[:-3], dir(builtins))

    def test_sizes_and_characters(self):
        for path, tree in trees():
            text = path.read_text()
            self.assertTrue(all(sign == "\n" or " " <= sign <= "~" for sign in text), path)
            self.assertLessEqual(len(text.splitlines()), 399, path)
            self.assertLessEqual(max(map(len, text.splitlines())), 120, path)
            for node in ast.walk(tree):
                if isinstance(node, ast.FunctionDef):
                    self.assertLessEqual(node.end_lineno - node.lineno + 1, 40, (path, node.name))

    def test_module_level(self):
        plain = (ast.FunctionDef, ast.ClassDef, ast.ImportFrom)
        for path, tree in trees():
            for node in tree.body:
                docstring = isinstance(node, ast.Expr) and node is tree.body[0]
                value = isinstance(node, ast.Assign) and len(node.targets) == 1
                self.assertTrue(isinstance(node, plain) or docstring or value, (path, node.lineno))

    def test_imports(self):
        defined = {f"markseam.{path.stem}": defined_names(tree) for path, tree in trees()}
        leads = {}
        for path, tree in trees():
            found = [node for node in ast.walk(tree) if isinstance(node, ast.ImportFrom)]
            leads[f"markseam.{path.stem}"] = [node.module for node in found]
            for node in found:
                self.assertEqual(node.level, 0, path)
                for one in node.names:
                    self.assertIsNone(one.asname, path)
                    self.assertIn(one.name, defined[node.module], path)
        while leads:
            free = [name for name, wanted in leads.items() if not set(wanted) & set(leads)]
            self.assertTrue(free, leads)
            leads = {name: wanted for name, wanted in leads.items() if name not in free}

    def test_statements_and_expressions(self):
        for path, tree in trees():
            for node in ast.walk(tree):
                self.assertNotIsInstance(node, BARRED_NODES, (path, getattr(node, "lineno", 0)))
                self.assertFalse(getattr(node, "decorator_list", []), path)
                if isinstance(node, ast.Constant):
                    self.assertNotIsInstance(node.value, (float, complex, bytes), path)
                if isinstance(node, ast.Compare) and isinstance(node.ops[0], (ast.Is, ast.IsNot)):
                    self.assertIsNone(node.comparators[0].value, (path, node.lineno))

    def test_names(self):
        for path, tree in trees():
            bound = bound_names(tree)
            self.assertFalse(bound & (set(dir(builtins)) | BARRED_NAMES), path)
            for name in bound:
                self.assertTrue(name in METHOD_NAMES or not name.startswith("__"), (path, name))
            for node in ast.walk(tree):
                if isinstance(node, ast.Name) and isinstance(node.ctx, ast.Load):
                    self.assertIn(node.id, bound | BUILTINS, path)
                if isinstance(node, ast.Constant) and isinstance(node.value, str) and node.lineno != 1:
                    self.assertFalse(set(node.value.split()) & BARRED_WORDS, (path, node.lineno))

    def test_no_variable_has_the_name_of_a_class_or_an_import(self):
        for path, tree in trees():
            for node in ast.walk(tree):
                if isinstance(node, ast.FunctionDef):
                    self.assertFalse(inner_names(node) & module_names(tree), (path, node.name))

    def test_what_a_loop_goes_over_is_not_changed_in_it(self):
        for path, tree in trees():
            for node in ast.walk(tree):
                if isinstance(node, ast.For):
                    gone_over = {ast.unparse(one) for one in ast.walk(node.iter)
                                 if isinstance(one, (ast.Name, ast.Attribute, ast.Subscript))}
                    self.assertFalse(gone_over & set(changed_things(node.body)), (path, node.lineno))

    def test_sets_stand_where_they_may(self):
        for path, tree in trees():
            may = [one for node in ast.walk(tree) if isinstance(node, ast.Call) and isinstance(node.func, ast.Name)
                   and node.func.id in ("sorted", "len") for one in ast.walk(node.args[0])]
            for node in ast.walk(tree):
                called = isinstance(node, ast.Call) and isinstance(node.func, ast.Name) and node.func.id == "set"
                if called or isinstance(node, ast.SetComp):
                    self.assertIn(node, may, (path, node.lineno))

    def test_zips_and_the_like_are_gone_over_at_once(self):
        heads = ("list", "tuple", "dict", "sorted", "sum", "any", "all", "enumerate", "zip")
        for path, tree in trees():
            may = [node.iter for node in ast.walk(tree) if isinstance(node, (ast.For, ast.comprehension))]
            may += [one for node in ast.walk(tree) if isinstance(node, ast.Call) and isinstance(node.func, ast.Name)
                    and node.func.id in heads for one in node.args]
            for node in ast.walk(tree):
                if isinstance(node, ast.Call):
                    name = node.func.id if isinstance(node.func, ast.Name) else node.func.attr
                    if name in ("zip", "enumerate", "range", "reversed", "items", "keys", "values"):
                        self.assertIn(node, may, (path, node.lineno))

    def test_methods(self):
        own = {node.name for path, tree in trees() for one in ast.walk(tree) if isinstance(one, ast.ClassDef)
               for node in one.body if isinstance(node, ast.FunctionDef)}
        for path, tree in trees():
            for node in ast.walk(tree):
                if isinstance(node, ast.Call) and isinstance(node.func, ast.Attribute):
                    self.assertIn(node.func.attr, own | METHODS, (path, node.lineno))

    def test_strings(self):
        for path, tree in trees():
            for node in ast.walk(tree):
                if isinstance(node, ast.Constant) and isinstance(node.value, str):
                    self.assertNotIn("%", node.value, (path, node.lineno))
                    self.assertFalse("__" in node.value, (path, node.lineno))

    def test_what_is_let_go_is_not_read(self):
        for path, tree in trees():
            for node in ast.walk(tree):
                if isinstance(node, ast.Name) and node.id == "_":
                    self.assertIsInstance(node.ctx, ast.Store, (path, node.lineno))

    def test_attributes_that_are_read_are_assigned_somewhere(self):
        found = [node for path, tree in trees() for node in ast.walk(tree)]
        known = {node.attr for node in found if isinstance(node, ast.Attribute) and isinstance(node.ctx, ast.Store)}
        called = {id(node.func) for node in found if isinstance(node, ast.Call)}
        for node in found:
            if isinstance(node, ast.Attribute) and isinstance(node.ctx, ast.Load) and id(node) not in called:
                self.assertIn(node.attr, known, node.lineno)
        self.assertFalse(known & BARRED_ATTRIBUTES)

    def test_tables_are_not_changed_or_passed_on(self):
        for path, tree in trees():
            tables = {node.targets[0].id for node in tree.body
                      if isinstance(node, ast.Assign) and isinstance(node.value, (ast.Dict, ast.List))}
            may = [node.value for node in ast.walk(tree) if isinstance(node, ast.Subscript)]
            may += [one for node in ast.walk(tree) if isinstance(node, ast.Compare) for one in node.comparators]
            for node in ast.walk(tree):
                if isinstance(node, ast.Name) and node.id in tables and isinstance(node.ctx, ast.Load):
                    self.assertIn(node, may, (path, node.lineno))

    def test_no_name_is_a_method_and_an_attribute(self):
        for path, tree in trees():
            for one in ast.walk(tree):
                if isinstance(one, ast.ClassDef):
                    methods = [node.name for node in one.body if isinstance(node, ast.FunctionDef)]
                    self.assertEqual(len(methods), len(set(methods)), path)
                    stored = {node.attr for node in ast.walk(one) if isinstance(node, ast.Attribute)
                              and isinstance(node.ctx, ast.Store)}
                    self.assertFalse(stored & set(methods), path)


if __name__ == "__main__":
    unittest.main()
