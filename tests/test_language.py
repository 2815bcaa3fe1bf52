"""The form of the code: the rules of the language subset that can be checked by their form, and the interface."""

import ast
import builtins
import pathlib
import unittest

import shapetypes
from shapetypes import (
    calls, declarations, errors, fitting, live, members, programs, runs, shapes, tables, worlds,
)

FOLDER = pathlib.Path(shapetypes.__file__).parent
LIBRARY = ("heapq", "math", "itertools", "collections")
DECORATORS = ("property", "classmethod", "staticmethod")
BUILTINS = set(
    "len range enumerate zip min max sum abs sorted reversed int str bool bytes list tuple dict set frozenset "
    "isinstance ord repr any all divmod pow getattr hasattr setattr iter next super map type Exception ValueError "
    "TypeError KeyError IndexError LookupError ZeroDivisionError ArithmeticError OverflowError RuntimeError "
    "NotImplementedError AttributeError StopIteration NotImplemented property classmethod staticmethod".split()
)
SPECIAL = set(
    "__init__ __eq__ __repr__ __str__ __len__ __enter__ __exit__ __call__ __iter__ __lt__ __le__ __gt__ __ge__ __ne__ "
    "__add__ __sub__ __mul__ __and__ __or__ __xor__ __neg__ __bool__ __contains__ __getitem__ __setitem__".split()
)
BARRED = set(
    "mro elements open input law version_info with_traceback add_note register attrgetter breakpoint builtins "
    "compile copyright credits delattr dir eval exec exit gc globals help id importlib license locals methodcaller "
    "os quit vars typing enum Enum dataclass overload contextmanager Protocol ABC NamedTuple namedtuple".split()
)
INTERFACE = {
    shapes.Atom: ("__init__", "name", "arguments", "text", "__eq__"),
    shapes.Shape: (
        "__init__", "of_names", "read", "atoms", "text", "__len__", "__bool__", "__eq__", "__contains__", "__or__",
        "__and__", "__le__", "__lt__",
    ),
    declarations.Way: ("__init__", "gives", "parameters", "MAX_PARAMETERS"),
    declarations.Method: ("__init__", "of", "name", "ways", "MAX_WAYS"),
    declarations.Declaration: ("MAX_METHODS",),
    declarations.Kind: ("__init__", "of", "name", "methods"),
    declarations.Role: ("__init__", "of", "name", "methods", "marks", "MAX_PARAMETERS"),
    worlds.World: (
        "__init__", "of", "declarations", "kinds", "roles", "__contains__", "__getitem__", "is_plain", "check_shape",
        "is_kind_set", "is_use", "allows", "result", "each_use", "MAX_KINDS", "MAX_ROLES",
    ),
    members.Narrower: ("__init__", "cases", "__call__", "is_complete", "case_of"),
    programs.Program: ("read", "text", "slots", "__len__", "__eq__", "MAX_LINES", "MAX_VARIABLES", "MAX_NESTING"),
    live.LiveWorld: (
        "__init__", "world", "log", "__len__", "__contains__", "add", "drop", "accepts", "undo", "worlds", "MAX_CHANGES",
    ),
    live.PledgedWorld: ("__init__", "pledges", "pledge"),
}
FUNCTIONS = {
    worlds: ("World", "least_marks"), fitting: ("fits", "are_alike", "decide", "check_decision"),
    members: ("members", "Narrower"), calls: ("called", "dead_ways", "overlaps"), programs: ("Program",),
    runs: ("run", "judge", "environments"), live: ("LiveWorld", "PledgedWorld"), tables: ("fit_table",),
    shapes: ("Atom", "Shape"), declarations: ("Way", "Method", "Declaration", "Kind", "Role"),
}


def files():
    return sorted(FOLDER.glob("**/*.py"))


def docstrings(tree):
    """The constants that are docstrings."""
    found = set()
    for node in ast.walk(tree):
        if isinstance(node, (ast.Module, ast.ClassDef, ast.FunctionDef)) and ast.get_docstring(node) is not None:
            found.add(node.body[0].value)
    return found


def bound_names(tree):
    """The names that a file binds or reads as an attribute."""
    for node in ast.walk(tree):
        if isinstance(node, (ast.FunctionDef, ast.ClassDef)):
            yield node.name
        elif isinstance(node, ast.Name) and isinstance(node.ctx, ast.Store):
            yield node.id
        elif isinstance(node, ast.arg):
            yield node.arg
        elif isinstance(node, ast.Attribute):
            yield node.attr


class Language(unittest.TestCase):

    def each(self):
        for path in files():
            text = path.read_text(encoding="utf-8")
            with self.subTest(file=path.name):
                yield path, text, ast.parse(text)

    def test_files(self):
        for path in FOLDER.glob("**/*"):
            if "__pycache__" not in path.parts:
                self.assertRegex(path.name, r"^[a-z_][a-z0-9_]*\.py$")

    def test_sizes_and_characters(self):
        for path, text, tree in self.each():
            self.assertLessEqual(text.count("\n"), 399)
            for line in text.split("\n"):
                self.assertLessEqual(len(line), 120)
                self.assertTrue(all(" " <= sign <= "~" for sign in line), line)
            for node in ast.walk(tree):
                if isinstance(node, ast.FunctionDef):
                    self.assertLessEqual(node.end_lineno - node.lineno + 1, 40, node.name)

    def test_imports(self):
        needs = {}
        for path, text, tree in self.each():
            needs[path.stem] = set()
            for node in ast.walk(tree):
                self.assertNotIsInstance(node, ast.Import)
                if isinstance(node, ast.ImportFrom) and node.module not in LIBRARY:
                    package, _, module = node.module.partition(".")
                    self.assertEqual((package, node.level), ("shapetypes", 0))
                    needs[path.stem].add(module)
                    defined = ast.parse((FOLDER / f"{module}.py").read_text(encoding="utf-8")).body
                    named = [part.name for part in defined if isinstance(part, (ast.FunctionDef, ast.ClassDef))]
                    named += [part.targets[0].id for part in defined if isinstance(part, ast.Assign)]
                    for alias in node.names:
                        self.assertIn(alias.name, named)
        while needs:
            ready = [name for name in needs if not needs[name] & set(needs)]
            self.assertTrue(ready, "files import from each other")
            for name in ready:
                del needs[name]

    def test_module_level(self):
        allowed = (ast.ImportFrom, ast.FunctionDef, ast.ClassDef, ast.Assign)
        for path, text, tree in self.each():
            for node in tree.body:
                docstring = isinstance(node, ast.Expr) and isinstance(node.value, ast.Constant)
                self.assertTrue(docstring or isinstance(node, allowed), ast.unparse(node))

    def test_statements(self):
        barred = (ast.Global, ast.AsyncFunctionDef, ast.Await, ast.AnnAssign, ast.Div)
        for path, text, tree in self.each():
            for node in ast.walk(tree):
                self.assertNotIsInstance(node, barred)
                if isinstance(node, ast.FunctionDef):
                    for decorator in node.decorator_list:
                        self.assertIn(ast.unparse(decorator), DECORATORS)
                if isinstance(node, ast.Try):
                    for handler in node.handlers:
                        self.assertIsNotNone(handler.type)

    def test_names(self):
        for path, text, tree in self.each():
            for name in bound_names(tree):
                self.assertNotIn(name, BARRED)
                self.assertTrue(name in SPECIAL or not name.startswith("__"), name)
            for node in ast.walk(tree):
                # Doctest gives the name _ to the last value that it has shown.
                if isinstance(node, ast.Name) and node.id != "_":
                    barred = isinstance(node.ctx, ast.Store) or node.id not in BUILTINS
                    self.assertFalse(barred and hasattr(builtins, node.id), node.id)

    def test_strings(self):
        for path, text, tree in self.each():
            documented = docstrings(tree)
            for node in ast.walk(tree):
                if isinstance(node, ast.Constant):
                    self.assertNotIsInstance(node.value, (float, complex))
                    if isinstance(node.value, str) and node not in documented:
                        self.assertNotIn("%", node.value)

    def test_no_sets_and_no_generator_expressions(self):
        barred = (ast.Set, ast.SetComp, ast.GeneratorExp, ast.Lambda)
        for path, text, tree in self.each():
            for node in ast.walk(tree):
                self.assertNotIsInstance(node, barred)
                if isinstance(node, ast.Call) and isinstance(node.func, ast.Name):
                    self.assertNotIn(node.func.id, ("set", "frozenset"))

    def test_only_numbers_and_texts_are_sorted(self):
        for path, text, tree in self.each():
            for node in ast.walk(tree):
                if isinstance(node, ast.Attribute):
                    self.assertNotEqual(node.attr, "sort")
                if isinstance(node, ast.Call) and ast.unparse(node.func) == "sorted":
                    self.assertEqual((len(node.args), node.keywords), (1, []))
                    self.assertRegex(ast.unparse(node.args[0]), r"^\[(str|int)\([a-z]+\) for ")

    def test_properties_are_not_assigned(self):
        properties, assigned, methods = set(), {}, {}
        for path, text, tree in self.each():
            for made in [node for node in ast.walk(tree) if isinstance(node, ast.ClassDef)]:
                inside = [node for node in made.body if isinstance(node, ast.FunctionDef)]
                properties |= {node.name for node in inside
                               if "property" in [ast.unparse(part) for part in node.decorator_list]}
                methods[made.name] = {node.name for node in inside}
                assigned[made.name] = {node.attr for node in ast.walk(made)
                                       if isinstance(node, ast.Attribute) and isinstance(node.ctx, ast.Store)}
        for name in assigned:
            self.assertEqual(assigned[name] & properties, set(), name)
            for other in methods:
                self.assertEqual(assigned[name] & methods[other], set(), (name, other))

    def test_no_names_of_parts_of_builtin_values(self):
        """Methods and attributes have no names that methods of builtin values have, but for add."""
        taken = {name for made in (str, int, list, dict, set, bytes, tuple, range) for name in dir(made) if name[0] != "_"}
        for path, text, tree in self.each():
            for node in ast.walk(tree):
                if isinstance(node, ast.Attribute) and isinstance(node.ctx, ast.Store):
                    self.assertNotIn(node.attr, taken)
                if isinstance(node, ast.ClassDef):
                    named = {part.name for part in node.body if isinstance(part, ast.FunctionDef)}
                    self.assertLessEqual(named & taken, {"add"})

    def test_no_name_of_a_class_or_an_import_is_used_again(self):
        for path, text, tree in self.each():
            named = {alias.name for node in tree.body if isinstance(node, ast.ImportFrom) for alias in node.names}
            named |= {node.name for node in tree.body if isinstance(node, (ast.ClassDef, ast.FunctionDef))}
            for node in ast.walk(tree):
                if isinstance(node, ast.Name) and isinstance(node.ctx, ast.Store):
                    self.assertNotIn(node.id, named)
                if isinstance(node, ast.arg):
                    self.assertNotIn(node.arg, named)

    def test_generators(self):
        """No other function or method has the name of a generator."""
        generators, others = [], []
        for path, text, tree in self.each():
            for node in ast.walk(tree):
                if isinstance(node, ast.FunctionDef):
                    yields = [part for part in ast.walk(node) if isinstance(part, (ast.Yield, ast.YieldFrom))]
                    (generators if yields else others).append(node.name)
        self.assertEqual(sorted(generators), ["each_use", "environments", "overlaps", "worlds"])
        self.assertEqual(set(generators) & set(others), set())

    def test_interface_is_defined_in_its_classes(self):
        for made, names in INTERFACE.items():
            for name in names:
                self.assertIn(name, vars(made), made.__name__)
        for name, value in vars(errors).items():
            if isinstance(value, type) and value is not errors.ShapetypesError:
                self.assertIn("__init__", vars(value), name)

    def test_interface_is_defined_in_its_files(self):
        for module, names in FUNCTIONS.items():
            for name in names:
                self.assertEqual(getattr(module, name).__module__, module.__name__)
        for file, name in (("fitting.py", "MAX_PAIRS"), ("runs.py", "MAX_ENVIRONMENTS")):
            tree = ast.parse((FOLDER / file).read_text(encoding="utf-8"))
            assigned = [node.targets[0].id for node in tree.body if isinstance(node, ast.Assign)]
            self.assertIn(name, assigned)


if __name__ == "__main__":
    unittest.main()
