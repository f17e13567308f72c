"""The package keeps to the plain part of Python that it is written in."""

import ast
import builtins
import os
import re
import unittest

PACKAGE = os.path.join(os.path.dirname(os.path.dirname(os.path.abspath(__file__))), "howeverwide")
LIBRARY = ("heapq", "math", "itertools", "collections")
BUILTINS = """len range enumerate zip min max sum abs sorted reversed int str bool bytes list tuple dict set frozenset
isinstance ord repr any all divmod pow iter next map Exception ValueError TypeError KeyError IndexError LookupError
ZeroDivisionError ArithmeticError OverflowError RuntimeError NotImplementedError AttributeError""".split()
METHODS = """append clear copy count endswith extend find get index insert isalnum isalpha isdigit islower isspace isupper
items join keys ljust lower lstrip partition pop remove replace reverse rfind rjust rpartition rsplit rstrip setdefault
split splitlines startswith strip update upper values zfill bit_length""".split()
BARRED_NAMES = """register mro elements open input law version_info with_traceback add_note attrgetter breakpoint builtins
compile copyright credits delattr dir eval exec exit gc getattr globals hasattr help id importlib license locals
methodcaller os quit setattr super type vars sys""".split()
BARRED_WORDS = """type typing typing_extensions enum Enum IntEnum StrEnum Flag IntFlag Generic Protocol ABC ABCMeta
namedtuple NamedTuple TypedDict TYPE_CHECKING abstractmethod dataclass overload contextmanager""".split()
OWN_METHODS = ["layers", "claims", "names", "together"]
DOUBLE = ("__init__", "__eq__")
STATEMENTS = (ast.Assign, ast.AugAssign, ast.If, ast.While, ast.For, ast.Return, ast.Break, ast.Continue, ast.Raise,
              ast.Expr, ast.FunctionDef, ast.Try)


def sources():
    for name in sorted(os.listdir(PACKAGE)):
        if name != "__pycache__":
            with open(os.path.join(PACKAGE, name), encoding="utf-8") as file:
                yield name, file.read()


def trees():
    for name, source in sources():
        yield name, ast.parse(source)


def bound_in(tree):
    """All names that are bound somewhere below a module: variables, parameters, functions."""
    for node in ast.walk(tree):
        if isinstance(node, ast.Name) and isinstance(node.ctx, ast.Store):
            yield node.id
        elif isinstance(node, ast.arg):
            yield node.arg
        elif isinstance(node, (ast.FunctionDef, ast.ClassDef)):
            yield node.name


def is_plain(node):
    if isinstance(node, ast.Constant):
        return True
    if isinstance(node, (ast.Tuple, ast.List)):
        return all(is_plain(item) for item in node.elts)
    if isinstance(node, ast.Dict):
        return all(is_plain(item) for item in node.keys + node.values)
    return False


class LanguageTest(unittest.TestCase):

    def test_files_and_lines(self):
        for name, source in sources():
            self.assertRegex(name, r"^[a-z_]+\.py$")
            self.assertRegex(source, r"\A[ -~\n]*\n\Z")
            lines = source.split("\n")
            self.assertLessEqual(len(lines), 399, name)
            self.assertLessEqual(max(len(line) for line in lines), 120, name)
            self.assertFalse([line for line in lines if line != line.rstrip()], name)

    def test_size_and_docstrings_of_functions(self):
        for name, tree in trees():
            self.assertIsNotNone(ast.get_docstring(tree), name)
            for node in ast.walk(tree):
                if isinstance(node, ast.FunctionDef):
                    self.assertLessEqual(node.end_lineno - node.lineno + 1, 40, (name, node.name))
                    self.assertEqual(node.decorator_list, [])
                    self.assertTrue(all(is_plain(default) for default in node.args.defaults))
                    self.assertFalse(node.args.vararg or node.args.kwarg or node.args.kwonlyargs or node.args.posonlyargs)
            for node in tree.body:
                if isinstance(node, (ast.FunctionDef, ast.ClassDef)):
                    self.assertIsNotNone(ast.get_docstring(node), (name, node.name))

    def test_module_level(self):
        for name, tree in trees():
            for node in tree.body[1:]:
                self.assertIsInstance(node, (ast.ImportFrom, ast.FunctionDef, ast.ClassDef, ast.Assign), (name, node.lineno))
                if isinstance(node, ast.Assign):
                    self.assertTrue(is_plain(node.value) and len(node.targets) == 1, (name, node.lineno))
                    inner = [one for one in ast.walk(node.value) if isinstance(one, (ast.List, ast.Dict))]
                    self.assertLessEqual(len(inner), 1, (name, node.lineno))

    def test_imports(self):
        defined, uses = {}, {}
        for name, tree in trees():
            module = "howeverwide." + name[:-3]
            defined[module] = {node.name for node in tree.body if isinstance(node, (ast.FunctionDef, ast.ClassDef))}
            defined[module] |= {node.targets[0].id for node in tree.body if isinstance(node, ast.Assign)}
            uses[module] = [node for node in ast.walk(tree) if isinstance(node, (ast.Import, ast.ImportFrom))]
        for module, imports in uses.items():
            for node in imports:
                self.assertIsInstance(node, ast.ImportFrom)
                self.assertEqual([node.level, [one.asname for one in node.names]], [0, [None] * len(node.names)])
                if node.module not in LIBRARY:
                    self.assertLessEqual({one.name for one in node.names}, defined[node.module], module)
        below = {module: {node.module for node in imports} for module, imports in uses.items()}
        done = set()
        while below:
            ready = [module for module, others in below.items() if others <= done | set(LIBRARY)]
            self.assertTrue(ready, ("imports in a ring", below))
            for module in ready:
                done.add(module)
                del below[module]

    def test_each_import_is_used_and_each_name_bound_once(self):
        for name, tree in trees():
            imported = [one.name for node in tree.body if isinstance(node, ast.ImportFrom) for one in node.names]
            read = {node.id for node in ast.walk(tree) if isinstance(node, ast.Name)}
            self.assertEqual([one for one in imported if one not in read], [], name)
            own = [node.name for node in tree.body if isinstance(node, (ast.FunctionDef, ast.ClassDef))]
            own += [node.targets[0].id for node in tree.body if isinstance(node, ast.Assign)]
            self.assertEqual(len(set(imported + own)), len(imported + own), name)
            inner = [one for node in tree.body if isinstance(node, ast.FunctionDef) for one in bound_in(node)
                     if one != node.name]
            self.assertEqual([one for one in inner if one in imported + own], [], name)

    def test_names(self):
        for name, tree in trees():
            for bound in bound_in(tree):
                self.assertFalse(hasattr(builtins, bound) and bound not in DOUBLE, (name, bound))
                self.assertRegex(bound, r"^(__init__|__eq__|_|[A-Za-z][A-Za-z0-9_]*)$")
                self.assertNotIn(bound, BARRED_NAMES)
            for node in ast.walk(tree):
                if isinstance(node, ast.Name) and hasattr(builtins, node.id):
                    self.assertIn(node.id, BUILTINS, (name, node.lineno))

    def test_words_that_do_not_occur(self):
        for name, tree in trees():
            told = [node.id for node in ast.walk(tree) if isinstance(node, ast.Name)]
            told += [node.attr for node in ast.walk(tree) if isinstance(node, ast.Attribute)]
            self.assertFalse(set(told) & set(BARRED_WORDS), name)
        for name, source in sources():
            for word in BARRED_WORDS[1:] + ["_wall", "_WallAttr"]:
                self.assertIsNone(re.search(r"\b" + word + r"\b", source), (name, word))

    def test_statements_and_expressions(self):
        barred = (ast.Div, ast.Pow, ast.Lambda, ast.SetComp, ast.Set, ast.GeneratorExp, ast.Yield, ast.YieldFrom,
                  ast.NamedExpr, ast.Global, ast.Nonlocal, ast.AsyncFunctionDef, ast.Await, ast.With, ast.Match,
                  ast.AnnAssign, ast.Delete, ast.Assert)
        for name, tree in trees():
            for node in ast.walk(tree):
                where = (name, getattr(node, "lineno", 0))
                self.assertNotIsInstance(node, barred, where)
                if isinstance(node, ast.stmt) and not isinstance(node, (ast.ClassDef, ast.ImportFrom)):
                    self.assertIsInstance(node, STATEMENTS, where)
                if isinstance(node, ast.Constant):
                    self.assertNotIsInstance(node.value, (float, complex), where)
                    self.assertFalse(isinstance(node.value, str) and "%" in node.value, where)
                if isinstance(node, ast.Compare):
                    for operator, side in zip(node.ops, node.comparators):
                        if isinstance(operator, (ast.Is, ast.IsNot)):
                            self.assertIsInstance(side, ast.Constant, where)

    def test_calls(self):
        for name, tree in trees():
            for node in ast.walk(tree):
                where = (name, getattr(node, "lineno", 0))
                if isinstance(node, ast.Call) and isinstance(node.func, ast.Attribute):
                    # Methods of own objects are called by self, which is never a list or a dict.
                    is_own = isinstance(node.func.value, ast.Name) and node.func.value.id == "self"
                    self.assertIn(node.func.attr, OWN_METHODS if is_own else METHODS, where)
                    self.assertEqual(node.keywords, [], where)
                if isinstance(node, ast.Call):
                    starred = [one.value for one in node.args if isinstance(one, ast.Starred)]
                    self.assertTrue(all(isinstance(one, (ast.Name, ast.Attribute)) for one in starred), where)
                if isinstance(node, ast.Call) and isinstance(node.func, ast.Name) and node.func.id in ("any", "all"):
                    self.assertIsInstance(node.args[0], (ast.ListComp, ast.Name, ast.Subscript), where)
                if isinstance(node, ast.Call) and isinstance(node.func, ast.Name) and node.func.id in ("sorted", "len"):
                    continue
                for inner in ast.iter_child_nodes(node):
                    called = isinstance(inner, ast.Call) and isinstance(inner.func, ast.Name)
                    self.assertFalse(called and inner.func.id in ("set", "frozenset"), where)

    def test_nothing_that_is_looped_over_is_changed(self):
        changing = ("append", "extend", "insert", "pop", "remove", "clear", "reverse", "setdefault", "update")
        for name, tree in trees():
            for node in ast.walk(tree):
                if not isinstance(node, ast.For):
                    continue
                over = {one.id for one in ast.walk(node.iter) if isinstance(one, ast.Name)}
                for inner in [one for row in node.body for one in ast.walk(row)]:
                    changed = None
                    if isinstance(inner, ast.Call) and isinstance(inner.func, ast.Attribute) and inner.func.attr in changing:
                        changed = inner.func.value
                    if isinstance(inner, ast.Subscript) and isinstance(inner.ctx, ast.Store):
                        changed = inner.value
                    if isinstance(changed, ast.Name):
                        self.assertNotIn(changed.id, over, (name, inner.lineno))

    def test_classes(self):
        for name, tree in trees():
            classes = [node for node in tree.body if isinstance(node, ast.ClassDef)]
            for node in classes:
                self.assertEqual([node.decorator_list, len(node.bases)], [[], 0 if node.name == "Solver" else 1])
                for inner in node.body[1:]:
                    self.assertIsInstance(inner, ast.FunctionDef)
                    if inner.name not in DOUBLE:
                        self.assertIsNotNone(ast.get_docstring(inner), inner.name)
            called = {inner.func.id for node in ast.walk(tree) if isinstance(node, ast.Raise)
                      for inner in [node.exc] if isinstance(inner, ast.Call)}
            read = [node.id for node in ast.walk(tree) if isinstance(node, ast.Name) and node.id[0].isupper()
                    and not node.id.isupper() and node.id not in BUILTINS]
            self.assertLessEqual(set(read) - {node.name for node in classes}, called, name)

    def test_attributes_and_methods(self):
        for name, tree in trees():
            for node in [node for node in tree.body if isinstance(node, ast.ClassDef)]:
                methods = [inner.name for inner in node.body[1:]]
                stored = {one.attr for one in ast.walk(node) if isinstance(one, ast.Attribute) and isinstance(one.ctx, ast.Store)}
                self.assertEqual([one for one in stored if one in methods or one in METHODS], [], (name, node.name))
                self.assertEqual(len(set(methods)), len(methods))
            for node in ast.walk(tree):
                if isinstance(node, ast.Attribute) and isinstance(node.ctx, ast.Store):
                    self.assertIsInstance(node.value, ast.Name, (name, node.lineno))

    def test_only_own_errors_are_caught(self):
        for name, tree in trees():
            for node in ast.walk(tree):
                if isinstance(node, ast.Try):
                    self.assertEqual([node.orelse, node.finalbody], [[], []])
                    for handler in node.handlers:
                        self.assertRegex(handler.type.id, "^Invalid", (name, node.lineno))

    def test_what_is_iterated_is_not_kept(self):
        kept = ("range", "zip", "enumerate", "reversed")
        for name, tree in trees():
            for node in ast.walk(tree):
                if isinstance(node, ast.Assign) and isinstance(node.value, ast.Call) and isinstance(node.value.func, ast.Name):
                    self.assertNotIn(node.value.func.id, kept, (name, node.lineno))


class CheckoutTest(unittest.TestCase):

    def test_nothing_else_lies_in_the_package(self):
        for found, folders, files in os.walk(PACKAGE):
            self.assertEqual([one for one in folders if one != "__pycache__"], [])
            if not found.endswith("__pycache__"):
                self.assertEqual([one for one in files if not one.endswith(".py")], [])


if __name__ == "__main__":
    unittest.main()
