"""The form of the package's files: the part of ../shared/LANGUAGE.md that a look at the code can tell."""

import ast
import builtins
import pathlib
import re
import unittest

PACKAGE = pathlib.Path(__file__).resolve().parent.parent / "evenmarket"
FILES = sorted(PACKAGE.rglob("*.py"))

CALLED = set("len range enumerate zip min max sum abs sorted reversed int str bool list tuple dict set isinstance ord "
             "any all divmod ValueError".split())
METHODS = set("append clear copy count endswith extend find get index insert isalnum isalpha isdigit islower isspace "
              "isupper items join keys ljust lower lstrip partition pop remove replace reverse rfind rjust rpartition "
              "rsplit rstrip setdefault split splitlines startswith strip update upper values zfill".split())
DUNDERS = {"__init__", "__eq__", "__str__", "__len__", "__contains__"}
NOWHERE = set("register mro elements open input law version_info with_traceback add_note".split())
NO_WORDS = ("type typing enum Enum Generic Protocol ABC namedtuple NamedTuple TypedDict dataclass overload "
            "contextmanager abstractmethod").split()
NO_VARIABLES = set("compile copyright credits delattr dir eval exec exit gc getattr globals hasattr help id license "
                   "locals os quit setattr super type vars sys".split())
NO_NODES = (ast.Global, ast.Nonlocal, ast.AsyncFunctionDef, ast.AsyncFor, ast.AsyncWith, ast.Await, ast.YieldFrom,
            ast.GeneratorExp, ast.Set, ast.SetComp, ast.Div, ast.NamedExpr, ast.With, ast.Match,
            ast.AnnAssign, ast.Import, ast.Assert)
# The functions that the document wants to be generators.
GENERATORS = ["all_sets", "fillings"]
# What is iterated at once, never kept.
FLEETING = {"zip", "enumerate", "range", "reversed", "set", "items", "keys", "values"}


def trees():
    return [(file, ast.parse(file.read_text())) for file in FILES]


def name_of_call(node):
    """The bare name or the method's name of a call, or None."""
    if not isinstance(node, ast.Call):
        return None
    return node.func.id if isinstance(node.func, ast.Name) else node.func.attr


def functions(tree):
    return [node for node in ast.walk(tree) if isinstance(node, (ast.FunctionDef, ast.Lambda))]


def bound(node):
    """The names that are bound within a node, without those of functions and classes."""
    names = [one.id for one in ast.walk(node) if isinstance(one, ast.Name) and isinstance(one.ctx, ast.Store)]
    names += [one.arg for one in ast.walk(node) if isinstance(one, ast.arg)]
    return names + [one.name for one in ast.walk(node) if isinstance(one, ast.ExceptHandler) and one.name]


def is_docstring(node, tree):
    for one in ast.walk(tree):
        if isinstance(one, (ast.Module, ast.ClassDef, ast.FunctionDef)) and one.body:
            first = one.body[0]
            if isinstance(first, ast.Expr) and first.value is node:
                return True
    return False


class Form(unittest.TestCase):

    def test_files(self):
        self.assertIn(PACKAGE / "__init__.py", FILES)
        for file in PACKAGE.rglob("*"):
            if file.name != "__pycache__" and file.parent.name != "__pycache__":
                self.assertRegex(file.name, r"^[a-z0-9_]+\.py$")
                self.assertNotIn(file.stem, dir(builtins))

    def test_characters_and_sizes(self):
        for file in FILES:
            text = file.read_text()
            self.assertRegex(text, r"\A[ -~\n]*\Z", file.name)
            lines = text.split("\n")
            self.assertLessEqual(len(lines), 399, file.name)
            self.assertLessEqual(max(map(len, lines)), 120, file.name)
            self.assertEqual(re.findall(r"\\[^nt\\\"']", text), [], file.name)
            for word in NO_WORDS:
                self.assertIsNone(re.search(r"\b" + word + r"\b", text), (file.name, word))

    def test_functions_are_small(self):
        for file, tree in trees():
            for node in functions(tree):
                self.assertLessEqual(node.end_lineno - node.lineno + 1, 40, (file.name, node.lineno))

    def test_nodes(self):
        for file, tree in trees():
            for node in ast.walk(tree):
                at = (file.name, getattr(node, "lineno", 0))
                self.assertNotIsInstance(node, NO_NODES, at)
                if isinstance(node, ast.Constant):
                    self.assertNotIsInstance(node.value, (float, bytes, complex), at)
                    if isinstance(node.value, str) and not is_docstring(node, tree):
                        self.assertNotIn("%", node.value, at)
                        self.assertNotIn("__", node.value, at)
                if isinstance(node, ast.Compare):
                    for operator, right in zip(node.ops, node.comparators):
                        if isinstance(operator, (ast.Is, ast.IsNot)):
                            self.assertIsInstance(right, ast.Constant, at)
                if isinstance(node, ast.arg):
                    self.assertIsNone(node.annotation, at)
                if isinstance(node, ast.FunctionDef):
                    self.assertIsNone(node.returns, at)
                    self.assertEqual([one.id for one in node.decorator_list], ["classmethod"] * (node.name == "read"), at)
                if isinstance(node, ast.ClassDef):
                    self.assertEqual(node.decorator_list, [], at)

    def test_generators(self):
        found = []
        for file, tree in trees():
            for node in functions(tree):
                rows = [one for one in ast.walk(node) if isinstance(one, ast.Expr) and isinstance(one.value, ast.Yield)]
                self.assertEqual(len(rows), len([one for one in ast.walk(node) if isinstance(one, ast.Yield)]))
                if rows:
                    found.append(node.name)
        self.assertEqual(sorted(found), GENERATORS)
        names = [node.name for file, tree in trees() for node in functions(tree) if isinstance(node, ast.FunctionDef)]
        for name in GENERATORS:
            self.assertEqual(names.count(name), 1)

    def test_imports(self):
        defined = {}
        for file, tree in trees():
            defined["evenmarket." + file.stem] = [
                name for node in tree.body
                for name in ([node.name] if isinstance(node, (ast.FunctionDef, ast.ClassDef)) else
                             [target.id for target in node.targets] if isinstance(node, ast.Assign) else [])]
        uses = {}
        for file, tree in trees():
            for node in tree.body:
                if isinstance(node, ast.ImportFrom):
                    self.assertEqual(node.level, 0)
                    uses.setdefault("evenmarket." + file.stem, []).append(node.module)
                    for alias in node.names:
                        self.assertIsNone(alias.asname)
                        self.assertIn(alias.name, defined[node.module], file.name)
                        used = [one.id for one in ast.walk(tree) if isinstance(one, ast.Name)]
                        self.assertIn(alias.name, used, file.name)
        for module in uses:
            self.assertNotIn(module, self.reached(uses, module))

    def reached(self, uses, module):
        found, waiting = [], list(uses[module])
        while waiting:
            one = waiting.pop()
            if one not in found:
                found.append(one)
                waiting += uses.get(one, [])
        return found

    def test_module_level(self):
        for file, tree in trees():
            names = []
            for at, node in enumerate(tree.body):
                if isinstance(node, ast.Expr):
                    self.assertEqual(at, 0)
                    continue
                self.assertIsInstance(node, (ast.ImportFrom, ast.FunctionDef, ast.ClassDef, ast.Assign), file.name)
                if isinstance(node, ast.Assign):
                    self.assertEqual(len(node.targets), 1)
                    # In a dict, functions that are defined above may stand, too.
                    for one in node.value.values if isinstance(node.value, ast.Dict) else [node.value]:
                        if not (isinstance(one, ast.Name) and one.id in names):
                            ast.literal_eval(one)
                    names.append(node.targets[0].id)
                elif isinstance(node, ast.ImportFrom):
                    names += [alias.name for alias in node.names]
                else:
                    names.append(node.name)
            self.assertEqual(len(names), len(set(names)), file.name)

    def test_names(self):
        for file, tree in trees():
            fixed = [node.name for node in tree.body if isinstance(node, ast.ClassDef)]
            fixed += [alias.name for node in tree.body if isinstance(node, ast.ImportFrom) for alias in node.names]
            module_level = [node.name for node in tree.body if isinstance(node, (ast.FunctionDef, ast.ClassDef))]
            for node in functions(tree):
                for name in bound(node):
                    self.assertNotIn(name, fixed, (file.name, node.lineno))
            for name in bound(tree) + module_level:
                self.assertNotIn(name, dir(builtins), file.name)
                self.assertNotIn(name, NO_VARIABLES | NOWHERE, file.name)
                self.assertRegex(name, r"^(_|_?[A-Za-z][A-Za-z0-9_]*)$", file.name)

    def test_calls(self):
        own = set()
        for file, tree in trees():
            own.update(node.name for node in ast.walk(tree) if isinstance(node, (ast.FunctionDef, ast.ClassDef)))
        for file, tree in trees():
            for node in ast.walk(tree):
                if isinstance(node, ast.Call):
                    at = (file.name, node.lineno)
                    if isinstance(node.func, ast.Name):
                        if node.func.id in dir(builtins):
                            self.assertIn(node.func.id, CALLED, at)
                    else:
                        self.assertIn(node.func.attr, METHODS | own, at)
                        self.assertNotIn(node.func.attr, NOWHERE, at)
                if isinstance(node, (ast.Assign, ast.AugAssign, ast.Return, ast.Starred)):
                    self.assertNotIn(name_of_call(node.value), FLEETING, (file.name, node.lineno))

    def test_errors_that_are_caught(self):
        for file, tree in trees():
            for node in ast.walk(tree):
                if isinstance(node, ast.ExceptHandler):
                    self.assertIsInstance(node.type, ast.Name)
                    self.assertNotIn(node.type.id, dir(builtins), (file.name, node.lineno))
                if isinstance(node, ast.Raise):
                    self.assertIsInstance(node.exc, ast.Call)

    def test_methods_and_attributes(self):
        methods, attributes = {}, {}
        for file, tree in trees():
            for made in [node for node in tree.body if isinstance(node, ast.ClassDef)]:
                methods[made.name] = [node.name for node in made.body if isinstance(node, ast.FunctionDef)]
                self.assertEqual(len(methods[made.name]), len(set(methods[made.name])))
                for name in methods[made.name]:
                    if name.startswith("__"):
                        self.assertIn(name, DUNDERS)
                attributes[made.name] = [node.attr for node in ast.walk(made) if isinstance(node, ast.Attribute)
                                         and isinstance(node.ctx, ast.Store)]
        for name in methods:
            self.assertEqual(set(methods[name]) & set(attributes[name]), set())


if __name__ == "__main__":
    unittest.main()
