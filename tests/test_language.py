"""Rules of ../shared/LANGUAGE.md that a look at the syntax can check; the others are checked by reading."""

import ast
import builtins
import pathlib
import unittest

PACKAGE = pathlib.Path(__file__).resolve().parent.parent / "whoselines"
TREES = {path.stem: ast.parse(path.read_text(encoding="utf-8")) for path in sorted(PACKAGE.glob("*.py"))}

ALLOWED = set(
    "len range enumerate zip min max sum abs sorted reversed int str bool bytes list tuple dict set frozenset"
    " isinstance ord repr any all divmod Exception ValueError TypeError KeyError IndexError LookupError"
    " ZeroDivisionError ArithmeticError OverflowError RuntimeError NotImplementedError AttributeError super property"
    " staticmethod classmethod".split()
)
METHODS = set(
    "append clear copy count endswith extend find get index insert isalnum isalpha isdigit islower isspace isupper"
    " items join keys ljust lower lstrip partition pop remove replace reverse rfind rjust rpartition rsplit rstrip"
    " setdefault split splitlines startswith strip update upper values zfill bit_length".split()
)
NOT_USED = set(
    "mro elements open input law version_info with_traceback add_note register attrgetter breakpoint builtins compile"
    " delattr dir eval exec exit gc globals help importlib locals methodcaller os quit vars typing typing_extensions"
    " enum Enum IntEnum StrEnum Flag IntFlag Generic Protocol ABC ABCMeta namedtuple NamedTuple TypedDict"
    " TYPE_CHECKING abstractmethod dataclass overload contextmanager".split()
)
PLAIN_LISTS = ("any", "all", "min", "max", "sum", "sorted")
BARRED_NODES = (
    ast.Import, ast.Global, ast.AsyncFunctionDef, ast.Await, ast.Yield, ast.YieldFrom, ast.Set, ast.Starred,
    ast.NamedExpr, ast.Div,
)


def nodes():
    for file, tree in TREES.items():
        for node in ast.walk(tree):
            yield file, node


def defined(kind):
    return {node.name for _, node in nodes() if isinstance(node, kind)}


def bound_names(node):
    """The names that a node binds."""
    if isinstance(node, ast.Name) and isinstance(node.ctx, ast.Store):
        return [node.id]
    if isinstance(node, ast.arg):
        return [node.arg]
    if isinstance(node, (ast.FunctionDef, ast.ClassDef)):
        return [node.name]
    if isinstance(node, ast.ImportFrom):
        return [alias.asname or alias.name for alias in node.names]
    return []


def is_property(node):
    """Whether a definition has just the decorator property, and just itself as its parameter."""
    if not isinstance(node, ast.FunctionDef) or [ast.unparse(one) for one in node.decorator_list] != ["property"]:
        return False
    return ast.unparse(node.args) == "self"


class Language(unittest.TestCase):
    def test_statements(self):
        for file, node in nodes():
            self.assertNotIsInstance(node, BARRED_NODES, f"{file} {getattr(node, 'lineno', 0)}")
            if isinstance(node, (ast.FunctionDef, ast.ClassDef)) and not is_property(node):
                self.assertEqual(node.decorator_list, [], node.name)
            if isinstance(node, ast.Constant):
                self.assertNotIsInstance(node.value, (float, complex))
                if isinstance(node.value, str):
                    self.assertNotIn(chr(37), node.value)

    def test_module_level(self):
        for file, tree in TREES.items():
            for node in tree.body:
                if isinstance(node, ast.Expr):
                    self.assertIsInstance(node.value, ast.Constant)
                else:
                    self.assertIsInstance(node, (ast.ImportFrom, ast.FunctionDef, ast.ClassDef, ast.Assign), file)

    def test_builtins(self):
        known = set(dir(builtins)) | {"__name__"}
        for file, node in nodes():
            if isinstance(node, ast.Name) and isinstance(node.ctx, ast.Load) and node.id in known:
                self.assertIn(node.id, ALLOWED, f"{file} {node.lineno}")
            for name in bound_names(node):
                self.assertNotIn(name, known, f"{file} {name}")
                self.assertNotIn(name, NOT_USED, f"{file} {name}")
                if name.startswith("__"):
                    self.assertIn(name, ("__init__", "__eq__", "__len__"))

    def test_methods(self):
        own = defined(ast.FunctionDef)
        stored = {
            node.attr for _, node in nodes() if isinstance(node, ast.Attribute) and isinstance(node.ctx, ast.Store)
        }
        for file, node in nodes():
            if isinstance(node, ast.Attribute):
                self.assertIn(node.attr, METHODS | own | stored, f"{file} {node.lineno}")
                self.assertNotIn(node.attr, NOT_USED)
                # The package has a class with a method add, so no set takes members by one.
                self.assertNotEqual(node.attr, "add", f"{file} {node.lineno}")
        for name in stored:
            self.assertNotIn(name, own, "no name is a method and an attribute")

    def test_properties(self):
        named = [node.name for _, node in nodes() if isinstance(node, ast.FunctionDef) and not is_property(node)]
        for file, node in nodes():
            if is_property(node):
                self.assertNotIn(node.name, named, f"{file} {node.name}")
                self.assertNotIn(node.name, METHODS)
                # What is read changes nothing: a property is one line that returns an attribute, or a copy of one.
                self.assertEqual([type(one) for one in node.body[1:]], [ast.Return])
                self.assertRegex(ast.unparse(node.body[1]), "^return (self[.]_[a-z]+|list[(]self[.]_[a-z]+[)])$")

    def test_len(self):
        for file, node in nodes():
            if isinstance(node, ast.FunctionDef) and node.name == "__len__":
                self.assertRegex(ast.unparse(node.body[-1]), "^return len[(]", file)
                self.assertEqual(len(node.body), 1)

    def test_lists_not_generators(self):
        # The package has a class with __eq__.
        for file, node in nodes():
            if isinstance(node, ast.Call) and isinstance(node.func, ast.Name) and node.func.id in PLAIN_LISTS:
                for arg in node.args:
                    self.assertNotIsInstance(arg, ast.GeneratorExp, f"{file} {node.lineno}")

    def test_sets(self):
        allowed = set()
        for _, node in nodes():
            if isinstance(node, ast.Call) and isinstance(node.func, ast.Name) and node.func.id in ("sorted", "len"):
                allowed.update(id(arg) for arg in node.args)
                for arg in node.args:
                    if isinstance(arg, ast.BinOp):
                        allowed.update((id(arg.left), id(arg.right)))
        for file, node in nodes():
            is_set = isinstance(node, ast.SetComp) or (
                isinstance(node, ast.Call) and isinstance(node.func, ast.Name) and node.func.id == "set")
            if is_set:
                self.assertIn(id(node), allowed, f"{file} {node.lineno}")

    def test_is(self):
        for file, node in nodes():
            if isinstance(node, ast.Compare) and any(isinstance(op, (ast.Is, ast.IsNot)) for op in node.ops):
                for other in node.comparators:
                    self.assertIsInstance(other, ast.Constant, f"{file} {node.lineno}")

    def test_imports(self):
        used = {}
        for file, tree in TREES.items():
            used[file] = []
            for node in ast.walk(tree):
                if isinstance(node, ast.ImportFrom):
                    source = node.module.removeprefix("whoselines.")
                    used[file].append(source)
                    names = [
                        name for one in TREES[source].body if not isinstance(one, ast.ImportFrom)
                        for part in ast.walk(one) for name in bound_names(part)
                    ]
                    for alias in node.names:
                        self.assertIn(alias.name, names, f"{file} {alias.name}")
                        self.assertIsNone(alias.asname)
                        local = [name for part in ast.walk(tree) if not isinstance(part, ast.ImportFrom)
                                 for name in bound_names(part)]
                        self.assertNotIn(alias.name, local, file)
                        loads = [part.id for part in ast.walk(tree) if isinstance(part, ast.Name)]
                        self.assertIn(alias.name, loads, f"{file} does not use {alias.name}")
        left = dict(used)
        while left:
            free = [file for file in left if not any(source in left for source in left[file])]
            self.assertTrue(free, f"files import from each other: {sorted(left)}")
            for file in free:
                del left[file]


if __name__ == "__main__":
    unittest.main()
