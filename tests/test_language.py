"""What can be seen at a glance of the rules that the package keeps to."""

import ast
import builtins
import functools
import pathlib
import re
import unittest

FOLDER = pathlib.Path(__file__).resolve().parent.parent / "spansay"
FILES = sorted(FOLDER.glob("*.py"))

BUILTINS = set(
    "len range enumerate zip min max sum abs sorted reversed int str bool list tuple dict set "
    "isinstance ord repr any all divmod ValueError".split()
)
METHODS = set(
    "append clear copy count endswith extend find get index insert isalnum isalpha isdigit islower "
    "isspace isupper items join keys ljust lower lstrip partition pop remove replace reverse rfind "
    "rjust rpartition rsplit rstrip setdefault split splitlines startswith strip update upper values "
    "zfill bit_length".split()
)
LOCAL_ONLY = {"object", "id", "format", "credits", "license", "copyright", "quit", "callable"}
BARRED = re.compile(
    r"(?<!\w)(type|typing|enum|Enum|Generic|Protocol|ABC|namedtuple|NamedTuple|mro|elements"
    r"|input|law|register|eval|exec|globals|locals|vars|chr|lambda|global|async|yield)(?!\w)"
)
BARRED_NAMES = {
    "mro", "elements", "open", "input", "law", "register", "version_info", "with_traceback", "add_note",
    "dir", "eval", "exec", "exit", "gc", "os", "sys", "type", "vars", "id", "compile", "help", "license",
}
# What may be imported from the library.
LIBRARY = {"math": {"gcd", "lcm"}}
OWN_ERRORS = {"NotAllowed", "BadForm", "Missing", "TooLarge", "Broken", "BadPaper"}
STATEMENTS = (
    ast.Assign, ast.AugAssign, ast.If, ast.While, ast.For, ast.Return, ast.Break, ast.Continue,
    ast.Raise, ast.Expr, ast.FunctionDef, ast.ClassDef, ast.ImportFrom, ast.Try,
)


@functools.cache
def trees():
    return [(path, ast.parse(path.read_text())) for path in FILES]


def functions(tree):
    return [node for node in ast.walk(tree) if isinstance(node, ast.FunctionDef)]


@functools.cache
def own_methods():
    names = set()
    for _, tree in trees():
        for node in ast.walk(tree):
            if isinstance(node, ast.ClassDef):
                names |= {part.name for part in functions(node)}
    return names


@functools.cache
def defined(path):
    names = set()
    for node in ast.parse(path.read_text()).body:
        if isinstance(node, (ast.FunctionDef, ast.ClassDef)):
            names.add(node.name)
        elif isinstance(node, ast.Assign):
            names.add(node.targets[0].id)
    return names


def code_words(path):
    """The words of a file without its docstrings and comments."""
    return ast.unparse(Bare().visit(ast.parse(path.read_text())))


class Bare(ast.NodeTransformer):
    def visit_Expr(self, node):
        if isinstance(node.value, ast.Constant):
            return ast.Pass()
        return node


class FilesTest(unittest.TestCase):
    def test_the_folder_contains_nothing_else(self):
        found = [p for p in FOLDER.iterdir() if p.name != "__pycache__" and p.suffix != ".py"]
        self.assertEqual(found, [])
        self.assertIn("__init__.py", [p.name for p in FILES])
        self.assertLessEqual(len(FILES), 100)

    def test_sizes_and_characters(self):
        for path in FILES:
            text = path.read_text()
            lines = text.split("\n")
            self.assertLessEqual(len(lines) - 1, 399, path)
            for number, line in enumerate(lines, 1):
                self.assertLessEqual(len(line), 120, (path, number))
                self.assertTrue(all(" " <= sign <= "~" for sign in line), (path, number))
            self.assertTrue(text.endswith("\n"), path)
            for node in functions(ast.parse(text)):
                self.assertLessEqual(node.end_lineno - node.lineno + 1, 40, (path, node.name))

    def test_barred_words(self):
        for path in FILES:
            self.assertIsNone(BARRED.search(code_words(path)), path)

    def test_barred_names(self):
        for path, tree in trees():
            for node in ast.walk(tree):
                for field in ("id", "attr", "arg", "name"):
                    self.assertNotIn(getattr(node, field, None), BARRED_NAMES, path)

    def test_no_percent_sign_in_a_string(self):
        for path, tree in trees():
            for node in ast.walk(tree):
                if isinstance(node, ast.Constant) and isinstance(node.value, str):
                    self.assertNotIn("%", node.value, (path, node.lineno))


class ImportsTest(unittest.TestCase):
    def test_imports_name_the_file_that_defines(self):
        for path, tree in trees():
            for node in ast.walk(tree):
                self.assertNotIsInstance(node, ast.Import)
                if isinstance(node, ast.ImportFrom):
                    names = {alias.name for alias in node.names}
                    self.assertEqual([alias.asname for alias in node.names], [None] * len(node.names))
                    if node.module in LIBRARY:
                        self.assertLessEqual(names, LIBRARY[node.module], path)
                        continue
                    package, name = node.module.split(".")
                    self.assertEqual(package, "spansay")
                    self.assertLessEqual(names, defined(FOLDER / f"{name}.py"), path)

    def test_what_comes_of_the_library_is_called_on_the_spot(self):
        for path, tree in trees():
            taken = set()
            for node in tree.body:
                if isinstance(node, ast.ImportFrom) and node.module in LIBRARY:
                    taken |= {alias.name for alias in node.names}
            read = [n for n in ast.walk(tree) if isinstance(n, ast.Name) and n.id in taken]
            called = [n.func for n in ast.walk(tree) if isinstance(n, ast.Call) and not n.keywords]
            for node in read:
                self.assertIn(node, called, path)
            for node in functions(tree):
                for part in ast.walk(node):
                    if isinstance(part, ast.Try):
                        self.assertFalse([n for n in ast.walk(part) if n in read], path)

    def test_each_import_is_used(self):
        for path, tree in trees():
            names = {node.id for node in ast.walk(tree) if isinstance(node, ast.Name)}
            for name in imported(tree):
                self.assertIn(name, names, path)

    def test_no_two_files_import_from_each_other(self):
        after = {}
        for path, tree in trees():
            found = [n.module for n in tree.body if isinstance(n, ast.ImportFrom) and n.module not in LIBRARY]
            after[path.stem] = [module.split(".")[1] for module in found]
        done = set()
        while len(done) < len(after):
            ready = {name for name in after if name not in done and set(after[name]) <= done}
            self.assertTrue(ready, "files import from each other")
            done |= ready


def imported(tree):
    return [a.name for n in tree.body if isinstance(n, ast.ImportFrom) for a in n.names]


class NamesTest(unittest.TestCase):
    def test_no_name_is_that_of_a_builtin(self):
        barred = set(dir(builtins)) - LOCAL_ONLY - {"_"}
        for path, tree in trees():
            for name in bound(tree):
                self.assertNotIn(name, barred, path)

    def test_no_local_name_is_that_of_an_import_or_a_class(self):
        for path, tree in trees():
            taken = set(imported(tree)) | {n.name for n in tree.body if isinstance(n, ast.ClassDef)}
            for node in functions(tree):
                self.assertFalse(taken & bound_inside(node), (path, node.name))

    def test_names_are_plain(self):
        for path, tree in trees():
            for name in bound(tree):
                self.assertRegex(name, r"^(_?[A-Za-z][A-Za-z0-9_]*|_|__init__)$", path)

    def test_builtins_and_methods_that_are_called(self):
        own = own_methods()
        for path, tree in trees():
            known = defined(path) | set(imported(tree)) | from_tables(tree)
            for node in ast.walk(tree):
                if not isinstance(node, ast.Call):
                    continue
                if isinstance(node.func, ast.Name):
                    self.assertIn(node.func.id, BUILTINS | known, (path, node.lineno))
                else:
                    self.assertIn(node.func.attr, METHODS | own, (path, node.lineno))

    def test_attributes_and_methods(self):
        values = [str, int, list, dict, set, bytes, tuple]
        barred = {name for value in values for name in dir(value)} - {"__init__", "copy"}
        for path, tree in trees():
            for name in own_methods():
                self.assertNotIn(name, barred, path)
            for node in ast.walk(tree):
                if isinstance(node, ast.Attribute) and isinstance(node.ctx, ast.Store):
                    self.assertNotIn(node.attr, barred, (path, node.lineno))

    def test_no_name_is_a_method_and_an_attribute_of_a_class(self):
        families = {}
        for _, tree in trees():
            for node in tree.body:
                if isinstance(node, ast.ClassDef):
                    families[node.name] = families.get(node.name, [])
                    families[node.name].append(node)
                    for base in node.bases:
                        families.setdefault(base.id, []).append(node)
        for name, nodes in families.items():
            methods = {part.name for node in nodes for part in functions(node)}
            stored = {
                part.attr for node in nodes for part in ast.walk(node)
                if isinstance(part, ast.Attribute) and isinstance(part.ctx, ast.Store)
            }
            self.assertFalse(stored & methods, name)

    def test_no_method_is_read_off_a_class(self):
        for path, tree in trees():
            classes = {name for name in imported(tree) if name[0].isupper() and not name.isupper()}
            classes |= {node.name for node in tree.body if isinstance(node, ast.ClassDef)}
            for node in ast.walk(tree):
                if isinstance(node, ast.Attribute) and isinstance(node.value, ast.Name):
                    self.assertNotIn(node.value.id, classes, (path, node.lineno))

    def test_attributes_that_are_read_are_assigned(self):
        stored = set()
        read = {}
        for path, tree in trees():
            for node in ast.walk(tree):
                if isinstance(node, ast.Attribute):
                    if isinstance(node.ctx, ast.Store):
                        stored.add(node.attr)
                    else:
                        read[node.attr] = (path, node.lineno)
        for name, place in read.items():
            self.assertIn(name, stored | own_methods() | METHODS, place)

    def test_lists_and_dicts_of_a_module_are_read_on_the_spot(self):
        for path, tree in trees():
            tables = {
                node.targets[0].id for node in tree.body
                if isinstance(node, ast.Assign) and isinstance(node.value, (ast.Dict, ast.List))
            }
            for node in ast.walk(tree):
                if isinstance(node, ast.Call) and getattr(node.func, "id", "") not in ("dict", "list", "len"):
                    for part in node.args:
                        self.assertNotIn(getattr(part, "id", ""), tables, (path, node.lineno))


def tables_of_functions(tree):
    """The names of the dicts at module level whose values are functions that are defined above them."""
    found = set()
    above = set()
    for node in tree.body:
        if isinstance(node, ast.FunctionDef):
            above.add(node.name)
        if isinstance(node, ast.Assign) and isinstance(node.value, ast.Dict):
            if all(isinstance(part, ast.Name) and part.id in above for part in node.value.values):
                found.add(node.targets[0].id)
    return found


def from_tables(tree):
    """The local names to which a function of such a table is assigned, by its index."""
    found = set()
    for node in ast.walk(tree):
        if isinstance(node, ast.Assign) and isinstance(node.value, ast.Subscript):
            if getattr(node.value.value, "id", "") in tables_of_functions(tree):
                found.add(node.targets[0].id)
    return found


def bound(tree):
    found = bound_inside(tree)
    for node in ast.walk(tree):
        if isinstance(node, ast.FunctionDef) or isinstance(node, ast.ClassDef):
            found.add(node.name)
    return found


def bound_inside(node):
    found = set()
    for part in ast.walk(node):
        if isinstance(part, ast.arg):
            found.add(part.arg)
        elif isinstance(part, ast.Name) and isinstance(part.ctx, ast.Store):
            found.add(part.id)
    return found


class StatementsTest(unittest.TestCase):
    def test_plain_statements(self):
        for path, tree in trees():
            for node in ast.walk(tree):
                if isinstance(node, ast.stmt):
                    self.assertIsInstance(node, STATEMENTS, (path, node.lineno))
                if isinstance(node, (ast.FunctionDef, ast.ClassDef)):
                    self.assertEqual(node.decorator_list, [], (path, node.lineno))
                self.assertNotIsInstance(node, (ast.Lambda, ast.NamedExpr, ast.Set, ast.SetComp))
                if isinstance(node, ast.Try):
                    self.assertLessEqual({h.type.id for h in node.handlers}, OWN_ERRORS, (path, node.lineno))
                    self.assertFalse(node.finalbody)
                if isinstance(node, ast.Constant):
                    self.assertNotIsInstance(node.value, (float, complex, bytes), path)
                if isinstance(node, ast.BinOp):
                    self.assertNotIsInstance(node.op, (ast.Div, ast.MatMult, ast.Pow), path)

    def test_comparison_by_is_with_none_true_and_false(self):
        for path, tree in trees():
            for node in ast.walk(tree):
                if isinstance(node, ast.Compare) and isinstance(node.ops[0], (ast.Is, ast.IsNot)):
                    self.assertIsInstance(node.comparators[0], ast.Constant, (path, node.lineno))

    def test_sets_are_counted_only(self):
        for path, tree in trees():
            counted = [
                node.args[0] for node in ast.walk(tree)
                if isinstance(node, ast.Call) and getattr(node.func, "id", "") in ("len", "sorted")
            ]
            for node in ast.walk(tree):
                if isinstance(node, ast.Call) and getattr(node.func, "id", "") == "set":
                    self.assertIn(node, counted, (path, node.lineno))

    def test_module_level_holds_plain_values_alone(self):
        for path, tree in trees():
            for node in tree.body:
                if isinstance(node, ast.Expr):
                    self.assertIsInstance(node.value, ast.Constant)
                elif isinstance(node, ast.Assign):
                    if node.targets[0].id not in tables_of_functions(tree):
                        ast.literal_eval(node.value)
                else:
                    self.assertIsInstance(node, (ast.ImportFrom, ast.FunctionDef, ast.ClassDef), path)


if __name__ == "__main__":
    unittest.main()
