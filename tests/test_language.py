"""The form of the code: those rules of the language that a small check can see."""

import ast
import builtins
import os
import re
import tokenize
import unittest

import openruns
from openruns import errors

FOLDER = os.path.dirname(openruns.__file__)
STATEMENTS = (
    ast.Assign, ast.AugAssign, ast.AnnAssign, ast.If, ast.While, ast.For, ast.Return, ast.Break, ast.Continue, ast.Pass,
    ast.Raise, ast.Assert, ast.Delete, ast.Nonlocal, ast.Match, ast.With, ast.Try, ast.Expr, ast.FunctionDef,
    ast.ClassDef, ast.ImportFrom,
)
BUILTINS = set(
    "len range enumerate zip min max sum abs sorted reversed int str bool bytes list tuple dict set frozenset isinstance"
    " ord repr any all divmod Exception ValueError TypeError KeyError IndexError LookupError ZeroDivisionError"
    " ArithmeticError OverflowError RuntimeError NotImplementedError AttributeError StopIteration NotImplemented iter"
    " next super property staticmethod classmethod object".split()
)
BARRED_WORDS = (
    "type typing typing_extensions enum Enum IntEnum StrEnum Flag IntFlag Generic Protocol ABC ABCMeta namedtuple"
    " NamedTuple TypedDict TYPE_CHECKING abstractmethod"
).split()
BARRED_NAMES = set("register mro elements open input law version_info with_traceback add_note".split())
BUILTIN_METHODS = set(
    "append clear copy count endswith extend find get index insert isalnum isalpha isdigit islower isspace isupper items"
    " join keys ljust lower lstrip partition pop remove replace reverse rfind rjust rpartition rsplit rstrip setdefault"
    " split splitlines startswith strip update upper values zfill bit_length sort add discard".split()
)
DOUBLES = re.compile(r"__(init|eq|repr|str|len|enter|exit|call|iter|contains|getitem|setitem|bool|[a-z]+)__")


def files():
    return sorted(os.path.join(FOLDER, name) for name in os.listdir(FOLDER) if name != "__pycache__")


def source(path):
    with open(path, encoding="utf-8", newline="") as file:
        return file.read()


class LanguageTest(unittest.TestCase):
    def each_tree(self):
        return [(path, ast.parse(source(path))) for path in files()]

    def each_node(self, *kinds):
        for _, tree in self.each_tree():
            for node in ast.walk(tree):
                if isinstance(node, kinds):
                    yield node

    def test_files(self):
        self.assertIn("__init__.py", [os.path.basename(path) for path in files()])
        for path in files():
            self.assertRegex(os.path.basename(path), r"^(__init__|__main__|[a-z][a-z0-9_]*)\.py$")
            self.assertNotRegex(os.path.basename(path), r"^(test|law_|conftest|site)")

    def test_lines(self):
        for path in files():
            text = source(path)
            with self.subTest(os.path.basename(path)):
                self.assertTrue(all(character == "\n" or " " <= character <= "~" for character in text))
                lines = text.split("\n")
                self.assertLessEqual(len(lines) - 1, 399)
                self.assertLessEqual(max(len(line) for line in lines), 120)
                for word in BARRED_WORDS:
                    self.assertIsNone(re.search(r"\b" + word + r"\b", text), word)
                self.assertIsNone(re.search("dataclass|overload|contextmanager", text))

    def test_strings(self):
        for path in files():
            with open(path, "rb") as file:
                for token in tokenize.tokenize(file.readline):
                    if token.type == tokenize.STRING:
                        self.assertNotIn("%", token.string)
                        self.assertIsNone(re.search(r"\\[^nt\\'\"]", token.string))

    def test_functions_are_short_and_not_decorated(self):
        for node in self.each_node(ast.FunctionDef):
            self.assertLessEqual(node.end_lineno - node.lineno + 1, 40, node.name)
            self.assertEqual(node.args.posonlyargs, [])
            for decorator in node.decorator_list:
                self.assertIn(ast.unparse(decorator).split(".")[-1], ("property", "setter", "staticmethod", "classmethod"))

    def test_statements(self):
        for node in self.each_node(ast.stmt):
            self.assertIsInstance(node, STATEMENTS, node.lineno)

    def test_module_level(self):
        for _, tree in self.each_tree():
            for number, node in enumerate(tree.body):
                is_docstring = number == 0 and isinstance(node, ast.Expr) and isinstance(node.value, ast.Constant)
                self.assertTrue(is_docstring or isinstance(node, (ast.ImportFrom, ast.FunctionDef, ast.ClassDef, ast.Assign)))
                if isinstance(node, ast.Assign):
                    self.assertEqual(len(node.targets), 1)
                    self.assertIsInstance(node.targets[0], ast.Name)

    def test_imports(self):
        needs = {}
        for path, tree in self.each_tree():
            name = "openruns." + os.path.basename(path)[:-3]
            needs[name] = []
            for node in ast.walk(tree):
                self.assertNotIsInstance(node, ast.Import)
                if isinstance(node, ast.ImportFrom):
                    self.assertEqual(node.level, 0)
                    self.assertTrue(node.module.startswith("openruns."))
                    needs[name].append(node.module)
                    other = ast.parse(source(os.path.join(FOLDER, node.module.split(".")[1] + ".py")))
                    for alias in node.names:
                        self.assertIsNone(alias.asname)
                        self.assertIn(alias.name, self.bound(other))
        while needs:
            free = [name for name in needs if not any(other in needs for other in needs[name])]
            self.assertTrue(free, needs)
            needs = {name: needs[name] for name in needs if name not in free}

    def bound(self, tree):
        names = []
        for node in tree.body:
            if isinstance(node, (ast.FunctionDef, ast.ClassDef)):
                names.append(node.name)
            elif isinstance(node, ast.Assign):
                names.append(node.targets[0].id)
        return names

    def test_module_names_are_bound_once(self):
        for _, tree in self.each_tree():
            names = self.bound(tree)
            for node in tree.body:
                if isinstance(node, ast.ImportFrom):
                    names += [alias.name for alias in node.names]
            self.assertEqual(len(names), len(set(names)))
            for node in ast.walk(tree):
                if isinstance(node, ast.FunctionDef):
                    local = [arg.arg for arg in node.args.args + node.args.kwonlyargs]
                    local += [part.id for part in ast.walk(node) if isinstance(part, ast.Name) and isinstance(part.ctx, ast.Store)]
                    self.assertEqual([name for name in local if name in names], [], node.name)

    def test_names(self):
        known = set(dir(builtins))
        for node in self.each_node(ast.Name, ast.arg, ast.FunctionDef, ast.ClassDef, ast.Attribute, ast.keyword):
            name = getattr(node, "id", None) or getattr(node, "arg", None) or getattr(node, "name", None) or getattr(node, "attr")
            self.assertNotIn(name, BARRED_NAMES)
            if not DOUBLES.fullmatch(name):
                self.assertFalse(name.startswith("_"), name)
            if isinstance(node, ast.Name) and isinstance(node.ctx, ast.Load):
                self.assertTrue(name not in known or name in BUILTINS, name)
            elif isinstance(node, (ast.Name, ast.arg, ast.ClassDef)):
                self.assertNotIn(name, known)

    def test_attributes_are_assigned_and_are_no_methods(self):
        methods, attributes, read = set(), set(), set()
        for node in self.each_node(ast.ClassDef, ast.Attribute):
            if isinstance(node, ast.ClassDef):
                methods.update(part.name for part in node.body if isinstance(part, ast.FunctionDef))
            elif isinstance(node.ctx, ast.Store):
                attributes.add(node.attr)
            else:
                read.add(node.attr)
        self.assertEqual(methods & attributes, set())
        self.assertEqual(read - methods - attributes - BUILTIN_METHODS - {"setter"}, set())
        self.assertEqual(attributes & set("items keys values pop update append clear extend insert remove reverse args".split()), set())

    def reached_by_operators(self):
        """The functions that operators, properties and the like come to, constructors left out."""
        named, methods, left = {}, {}, []
        for node in self.each_node(ast.FunctionDef):
            named.setdefault(node.name, []).append(node)
        for node in self.each_node(ast.ClassDef):
            methods.update({part.name: True for part in node.body if isinstance(part, ast.FunctionDef)})
        for name, nodes in named.items():
            if re.fullmatch("__(add|and|or|contains|getitem|iter|eq|ne|len)__", name):
                left += nodes
            left += [node for node in nodes if "property" in [ast.unparse(decorator) for decorator in node.decorator_list]]
        reached = []
        while left:
            node = left.pop()
            if node not in reached:
                reached.append(node)
                calls = [part for part in ast.walk(node) if isinstance(part, ast.Call)]
                left += [other for call in calls if isinstance(call.func, ast.Name) or self.called(call) in methods for other in named.get(self.called(call), [])]
        return reached

    def test_operators_change_only_what_they_created(self):
        reached = self.reached_by_operators()
        self.assertGreater(len(reached), 30)
        for function in reached:
            own = [node.targets[0].id for node in ast.walk(function) if isinstance(node, ast.Assign) and isinstance(node.targets[0], ast.Name)
                   and (isinstance(node.value, (ast.List, ast.Dict, ast.ListComp)) or isinstance(node.value, ast.Call) and self.called(node.value) in ("list", "dict", "sorted"))]
            for node in ast.walk(function):
                if isinstance(node, (ast.Attribute, ast.Subscript)) and not isinstance(node.ctx, ast.Load):
                    self.assertIn(ast.unparse(node.value) if isinstance(node, ast.Subscript) else None, own, (function.name, node.lineno))
                if isinstance(node, ast.Call) and self.called(node) in "append extend insert pop remove clear update reverse setdefault add discard sort".split():
                    self.assertIn(ast.unparse(node.func.value), own, (function.name, node.lineno))
                if isinstance(node, ast.AugAssign):
                    self.assertTrue(isinstance(node.target, ast.Name) and isinstance(node.value, ast.Constant), (function.name, node.lineno))

    def test_no_floats_no_generators_no_identity_of_values(self):
        for node in self.each_node(ast.Constant, ast.Div, ast.GeneratorExp, ast.Compare, ast.Set):
            self.assertNotIsInstance(node, (ast.Div, ast.GeneratorExp))
            if isinstance(node, ast.Constant):
                self.assertNotIsInstance(node.value, (float, complex))
            if isinstance(node, ast.Compare):
                for operator, right in zip(node.ops, node.comparators):
                    if isinstance(operator, (ast.Is, ast.IsNot)):
                        self.assertIsInstance(right, ast.Constant)

    def test_what_is_iterated_at_once_is_not_stored(self):
        for _, tree in self.each_tree():
            allowed = set()
            for node in ast.walk(tree):
                if isinstance(node, (ast.For, ast.comprehension)):
                    allowed.add(node.iter)
                elif isinstance(node, ast.Call) and isinstance(node.func, ast.Name) and node.args:
                    if node.func.id in "list tuple dict sorted sum any all enumerate zip min max reversed len".split():
                        allowed.add(node.args[0])
                    if node.func.id == "zip":
                        allowed.update(node.args)
            for node in ast.walk(tree):
                if isinstance(node, ast.Call) and self.called(node) in ("zip", "enumerate", "range", "reversed", "items", "keys", "values"):
                    self.assertIn(node, allowed, ast.unparse(node))

    def called(self, node):
        return node.func.id if isinstance(node.func, ast.Name) else getattr(node.func, "attr", "")

    def test_loops_do_not_change_what_they_iterate_over(self):
        for loop in self.each_node(ast.For):
            iterated = {ast.unparse(node) for node in ast.walk(loop.iter) if isinstance(node, (ast.Name, ast.Attribute, ast.Subscript))}
            for node in [part for row in loop.body for part in ast.walk(row)]:
                if isinstance(node, ast.Call) and isinstance(node.func, ast.Attribute):
                    if node.func.attr in "append extend insert pop remove clear update reverse setdefault".split():
                        self.assertNotIn(ast.unparse(node.func.value), iterated)
                if isinstance(node, ast.Subscript) and not isinstance(node.ctx, ast.Load):
                    self.assertNotIn(ast.unparse(node.value), iterated)

    def test_sets_stand_where_they_may(self):
        """The package stores no sets."""
        for _, tree in self.each_tree():
            allowed = set()
            for node in ast.walk(tree):
                if isinstance(node, ast.Call) and self.called(node) in ("sorted", "len"):
                    allowed.update(node.args)
            for node in ast.walk(tree):
                if isinstance(node, (ast.Set, ast.SetComp)) or isinstance(node, ast.Call) and self.called(node) == "set":
                    self.assertIn(node, allowed, ast.unparse(node))

    def test_own_errors_alone_are_caught(self):
        for node in self.each_node(ast.ExceptHandler):
            for kind in node.type.elts if isinstance(node.type, ast.Tuple) else [node.type]:
                self.assertIn(kind.id, vars(errors))

    def test_errors_are_created_on_the_spot(self):
        for node in self.each_node(ast.Raise):
            if node.exc is not None:
                self.assertIsInstance(node.exc, ast.Call)
                self.assertIsInstance(node.exc.func, ast.Name)
                self.assertTrue(node.exc.func.id[0].isupper())
        for node in self.each_node(ast.ExceptHandler):
            self.assertIsNotNone(node.type)


if __name__ == "__main__":
    unittest.main()
