"""The form of the package's files, as far as a short test can see it."""

import ast
import builtins
import re
import unittest
from pathlib import Path

PACKAGE = Path(__file__).resolve().parent.parent / "copyvotes"
LIBRARY = {
    "heapq": {"heapify", "heappop", "heappush", "heappushpop", "heapreplace"},
    "math": {"comb", "factorial", "gcd", "isqrt", "lcm", "perm"},
    "itertools": {
        "accumulate", "chain", "combinations", "islice", "pairwise", "permutations", "product", "zip_longest",
    },
    "collections": {"defaultdict"},
}
BUILTINS = set("""
    len range enumerate zip min max sum abs sorted reversed int str bool bytes list tuple dict set frozenset
    isinstance ord repr any all divmod pow getattr hasattr setattr map iter next super property staticmethod
    classmethod Exception ValueError TypeError KeyError IndexError LookupError ZeroDivisionError ArithmeticError
    OverflowError RuntimeError NotImplementedError AttributeError StopIteration NotImplemented
""".split())
SPECIAL = set("""
    init eq repr str len enter exit call iter lt le gt ge ne add sub mul floordiv mod pow and or xor lshift rshift
    radd rsub rmul rfloordiv rmod rand ror rxor rlshift rrshift iadd isub imul ifloordiv imod ipow iand ior ixor
    ilshift irshift neg pos invert abs bool contains getitem setitem
""".split())
BARRED_NAMES = set("register mro elements open input law version_info with_traceback add_note".split())
BARRED_STATEMENTS = (
    ast.Global, ast.AsyncFor, ast.AsyncFunctionDef, ast.AsyncWith, ast.Await, ast.Import, ast.Div,
)
# Ratios have an order of their own kind, so that nothing is sorted by them.
ORDERING = {"min", "max", "sorted", "sort"}
BUILTIN_METHODS = set("""
    append clear copy count endswith extend find get index insert isalnum isalpha isdigit islower isspace isupper
    items join keys ljust lower lstrip partition pop remove replace reverse rfind rjust rpartition rsplit rstrip
    setdefault split splitlines startswith strip update upper values zfill bit_length
    title capitalize swapcase casefold center expandtabs removeprefix removesuffix rindex isascii isdecimal
    isnumeric istitle isidentifier isprintable translate
""".split())
AT_MODULE_LEVEL = (ast.ImportFrom, ast.FunctionDef, ast.ClassDef, ast.Assign)


def files():
    return sorted(PACKAGE.rglob("*.py"))


def trees():
    return [(path, ast.parse(path.read_text("utf-8"))) for path in files()]


def nodes(*kinds):
    return [(path, node) for path, tree in trees() for node in ast.walk(tree) if isinstance(node, kinds)]


def is_docstring(statement):
    return isinstance(statement, ast.Expr) and isinstance(statement.value, ast.Constant)


def docstrings(tree):
    holders = (ast.Module, ast.ClassDef, ast.FunctionDef)
    bodies = [node.body for node in ast.walk(tree) if isinstance(node, holders)]
    return [body[0].value for body in bodies if body and is_docstring(body[0])]


def bound_names():
    for path, node in nodes(ast.FunctionDef, ast.ClassDef, ast.arg, ast.Name, ast.alias):
        if isinstance(node, (ast.FunctionDef, ast.ClassDef)):
            yield path, node.name
        elif isinstance(node, ast.arg):
            yield path, node.arg
        elif isinstance(node, ast.alias):
            yield path, node.asname or node.name
        elif isinstance(node.ctx, ast.Store):
            yield path, node.id


class FormTest(unittest.TestCase):
    def test_the_folder_holds_files_of_plain_names_alone(self):
        found = [path for path in PACKAGE.rglob("*") if "__pycache__" not in path.parts]
        self.assertEqual(sorted(path for path in found if path.is_file()), files())
        self.assertIn(PACKAGE / "__init__.py", found)
        for path in files():
            self.assertRegex(path.name, r"\A(__init__|__main__|[a-z][a-z0-9_]*)\.py\Z")

    def test_characters_and_sizes(self):
        for path in files():
            text = path.read_bytes().decode("utf-8")
            self.assertEqual(re.findall(r"[^ -~\n]", text), [], path)
            self.assertLessEqual(len(text.splitlines()), 399, path)
            self.assertLessEqual(max([len(line) for line in text.splitlines()] + [0]), 120, path)
        for path, function in nodes(ast.FunctionDef):
            self.assertLessEqual(function.end_lineno - function.lineno + 1, 40, (path, function.name))

    def test_imports(self):
        for path, node in nodes(ast.ImportFrom):
            names = [alias.name for alias in node.names]
            told = (path, node.lineno)
            self.assertEqual(node.level, 0, told)
            self.assertEqual([alias.asname for alias in node.names], [None] * len(names), told)
            if node.module in LIBRARY:
                self.assertLessEqual(set(names), LIBRARY[node.module], told)
            else:
                source = PACKAGE.parent / (node.module.replace(".", "/") + ".py")
                self.assertTrue(source.is_relative_to(PACKAGE) and source.is_file(), told)
                self.assertLessEqual(set(names), self.defined_in(source), told)

    def defined_in(self, path):
        body = ast.parse(path.read_text("utf-8")).body
        named = {node.name for node in body if isinstance(node, (ast.FunctionDef, ast.ClassDef))}
        return named | {node.targets[0].id for node in body if isinstance(node, ast.Assign)}

    def test_no_files_import_from_each_other(self):
        imported = {path.stem: set() for path in files()}
        for path, node in nodes(ast.ImportFrom):
            if node.module not in LIBRARY:
                imported[path.stem].add(node.module.rpartition(".")[2])
        while imported:
            free = [name for name in imported if not imported[name] & set(imported)]
            self.assertNotEqual(free, [], imported)
            imported = {name: imported[name] for name in imported if name not in free}

    def test_statements(self):
        self.assertEqual(nodes(*BARRED_STATEMENTS), [])
        for path, tree in trees():
            for statement in tree.body:
                fits = isinstance(statement, AT_MODULE_LEVEL) or is_docstring(statement)
                self.assertTrue(fits, (path, statement.lineno))
        for path, node in nodes(ast.FunctionDef):
            for decorator in node.decorator_list:
                self.assertRegex(ast.unparse(decorator), r"\A(staticmethod|classmethod|property|\w+\.setter)\Z")

    def test_constants(self):
        for path, tree in trees():
            told = docstrings(tree)
            for node in ast.walk(tree):
                if isinstance(node, ast.Constant):
                    self.assertNotIsInstance(node.value, (float, complex), (path, node.lineno))
                    if isinstance(node.value, str) and node not in told:
                        self.assertNotIn("%", node.value, (path, node.lineno))

    def test_builtins(self):
        known = set(dir(builtins))
        for path, node in nodes(ast.Name):
            if node.id in known:
                self.assertIn(node.id, BUILTINS, (path, node.lineno))
        methods = {
            method.name for path, holder in nodes(ast.ClassDef)
            for method in holder.body if isinstance(method, ast.FunctionDef)
        }
        for path, name in bound_names():
            self.assertTrue(name not in known or name in methods - BUILTINS, (path, name))

    def test_names(self):
        for path, name in bound_names():
            special = name.startswith("__") and name.endswith("__") and name[2:-2] in SPECIAL
            self.assertTrue(special or re.match(r"\A(_?[A-Za-z][A-Za-z0-9_]*|_)\Z", name), (path, name))
            self.assertNotIn(name, BARRED_NAMES, path)
        for path, node in nodes(ast.Attribute):
            self.assertNotIn(node.attr, BARRED_NAMES, (path, node.lineno))

    def test_no_local_name_is_that_of_a_class_or_an_import_of_its_file(self):
        for path, tree in trees():
            taken = {alias.name for node in ast.walk(tree) if isinstance(node, ast.ImportFrom) for alias in node.names}
            taken |= {node.name for node in tree.body if isinstance(node, ast.ClassDef)}
            for node in ast.walk(tree):
                if isinstance(node, ast.arg):
                    self.assertNotIn(node.arg, taken, (path, node.lineno))
                if isinstance(node, ast.Name) and isinstance(node.ctx, ast.Store):
                    self.assertNotIn(node.id, taken, (path, node.lineno))

    def test_methods_that_are_called(self):
        own = {
            method.name for path, holder in nodes(ast.ClassDef)
            for method in holder.body if isinstance(method, ast.FunctionDef)
        }
        for path, node in nodes(ast.Call):
            if isinstance(node.func, ast.Attribute):
                self.assertIn(node.func.attr, own | BUILTIN_METHODS, (path, node.lineno))
        self.assertEqual(own & BUILTIN_METHODS, set())

    def test_no_name_is_a_method_and_an_attribute(self):
        stored = {node.attr for path, node in nodes(ast.Attribute) if isinstance(node.ctx, ast.Store)}
        for path, holder in nodes(ast.ClassDef):
            for method in holder.body:
                if isinstance(method, ast.FunctionDef):
                    self.assertNotIn(method.name, stored, (path, holder.name))
        for path, node in nodes(ast.Attribute):
            if isinstance(node.ctx, ast.Store):
                self.assertEqual(ast.unparse(node.value), "self", (path, node.lineno))

    def test_what_beside_own_signs_is_not_used(self):
        self.assertEqual(nodes(ast.GeneratorExp), [])
        for path, node in nodes(ast.AugAssign):
            self.assertIsInstance(node.value, ast.Constant, (path, node.lineno))
        for path, node in nodes(ast.Name, ast.Attribute):
            name = node.id if isinstance(node, ast.Name) else node.attr
            self.assertNotIn(name, ORDERING, (path, node.lineno))

    def test_no_list_is_made_by_a_sign_that_ratios_have(self):
        # Beside Ratio's own *, such a list would not surely be one that its function created.
        for path, node in nodes(ast.BinOp):
            if isinstance(node.op, ast.Mult):
                for side in (node.left, node.right):
                    self.assertNotIsInstance(side, (ast.List, ast.ListComp, ast.Tuple), (path, node.lineno))

    def test_only_errors_of_the_program_are_caught(self):
        own = {node.name for path, node in nodes(ast.ClassDef) if path.name == "errors.py"}
        for path, node in nodes(ast.ExceptHandler):
            self.assertIn(ast.unparse(node.type), own, (path, node.lineno))

    def test_stars_stand_before_names_and_attributes(self):
        for path, node in nodes(ast.Starred):
            self.assertIsInstance(node.value, (ast.Name, ast.Attribute), (path, node.lineno))

    def test_is_stands_beside_none_true_and_false(self):
        for path, node in nodes(ast.Compare):
            for sign, right in zip(node.ops, node.comparators):
                if isinstance(sign, (ast.Is, ast.IsNot)):
                    self.assertIn(ast.unparse(right), ["None", "True", "False"], (path, node.lineno))

    def test_generators_have_names_of_their_own_and_are_iterated_at_once(self):
        generators = [
            (path, node.name) for path, node in nodes(ast.FunctionDef)
            if any(isinstance(inner, (ast.Yield, ast.YieldFrom)) for inner in ast.walk(node))
        ]
        functions = [node.name for path, node in nodes(ast.FunctionDef)]
        iterated = [
            (path, node.iter.lineno, ast.dump(node.iter)) for path, node in nodes(ast.For, ast.comprehension)
        ]
        for path, name in generators:
            self.assertEqual(functions.count(name), 1, path)
            for place, call in nodes(ast.Call):
                if isinstance(call.func, ast.Attribute) and call.func.attr == name:
                    self.assertIn((place, call.lineno, ast.dump(call)), iterated)
