"""The form of the package's code: a part of the rules that it keeps to, as far as they are easily seen."""

import ast
import builtins
import pathlib
import unittest

ROOT = pathlib.Path(__file__).resolve().parent.parent
PACKAGE = ROOT / "onelife"

STATEMENTS = (ast.Expr, ast.ImportFrom, ast.FunctionDef, ast.ClassDef, ast.Assign)
NODES_BARRED = (
    ast.AsyncFunctionDef, ast.Await, ast.Global, ast.Div, ast.Import, ast.Yield, ast.YieldFrom, ast.NamedExpr,
    ast.AnnAssign, ast.With, ast.Match, ast.Set, ast.SetComp)
BUILTINS = {
    "len", "range", "enumerate", "zip", "min", "max", "sum", "abs", "sorted", "reversed", "int", "str", "bool", "list",
    "tuple", "dict", "set", "isinstance", "ord", "repr", "any", "all", "divmod", "super", "property", "ValueError"}
METHODS = {
    "append", "clear", "copy", "count", "endswith", "extend", "find", "get", "index", "insert", "items", "join", "keys",
    "lower", "pop", "remove", "replace", "reverse", "setdefault", "split", "startswith", "strip", "update", "values"}
LIBRARY = {"math": {"gcd", "factorial"}, "itertools": {"combinations"}}
WORDS_BARRED = (
    "type", "typing", "enum", "Enum", "Flag", "Generic", "Protocol", "ABC", "namedtuple", "dataclass", "overload",
    "contextmanager", "register", "mro", "elements", "open", "input", "law", "id", "eval", "exec", "vars", "dir",
    "globals", "locals", "help", "exit", "quit", "os", "sys", "gc", "compile", "license", "credits", "copyright")


def files():
    return sorted(PACKAGE.glob("*.py"))


def trees():
    return [(path, ast.parse(path.read_text())) for path in files()]


def nodes(kind):
    return [(path, node) for path, tree in trees() for node in ast.walk(tree) if isinstance(node, kind)]


def bound_names(tree):
    """All names that a file gives to something."""
    for node in ast.walk(tree):
        if isinstance(node, ast.Name) and isinstance(node.ctx, ast.Store):
            yield node.id
        elif isinstance(node, ast.arg):
            yield node.arg
        elif isinstance(node, (ast.FunctionDef, ast.ClassDef)):
            yield node.name
        elif isinstance(node, ast.ImportFrom):
            yield from [alias.asname or alias.name for alias in node.names]
        elif isinstance(node, ast.ExceptHandler) and node.name:
            yield node.name


def local_names(function):
    """The parameters and variables of a function, those of its comprehensions included."""
    return [name for name in bound_names(function) if name != function.name]


class FormTest(unittest.TestCase):
    def test_folder(self):
        names = [path.name for path in PACKAGE.iterdir() if path.name != "__pycache__"]
        self.assertTrue(all([name.endswith(".py") and name == name.lower() for name in names]), names)
        self.assertIn("__init__.py", names)

    def test_sizes_and_characters(self):
        for path in files():
            data = path.read_bytes()
            lines = data.decode("ascii").split("\n")
            self.assertTrue(all([32 <= byte <= 126 or byte == 10 for byte in data]), path)
            self.assertLessEqual(len(lines), 399, path)
            self.assertLessEqual(max([len(line) for line in lines]), 120, path)
            self.assertTrue(data.endswith(b"\n"), path)
        for path, node in nodes(ast.FunctionDef):
            self.assertLessEqual(node.end_lineno - node.lineno + 1, 40, (path, node.name))

    def test_module_level(self):
        for path, tree in trees():
            for at, node in enumerate(tree.body):
                self.assertIsInstance(node, STATEMENTS, path)
                if isinstance(node, ast.Expr):
                    self.assertTrue(at == 0 and isinstance(node.value, ast.Constant), path)
            bound = [name for node in tree.body if not isinstance(node, ast.Expr)
                     for name in ([alias.name for alias in node.names] if isinstance(node, ast.ImportFrom)
                                  else [node.targets[0].id] if isinstance(node, ast.Assign) else [node.name])]
            self.assertEqual(len(bound), len(set(bound)), path)
            self.assertTrue(ast.get_docstring(tree), path)

    def test_barred_nodes(self):
        for path, node in nodes(NODES_BARRED):
            self.fail((path, node.lineno, node))
        for path, node in nodes(ast.Constant):
            self.assertNotIsInstance(node.value, (float, complex, bytes), path)
            if isinstance(node.value, str):
                self.assertNotIn("%", node.value, path)
        for path, node in nodes((ast.FunctionDef, ast.ClassDef)):
            decorators = [getattr(decorator, "id", None) for decorator in node.decorator_list]
            self.assertIn(decorators, ([], ["property"]), (path, node.name))
            self.assertTrue(node.name.startswith("_") or ast.get_docstring(node), (path, node.name))
        for path, node in nodes(ast.BinOp):
            if isinstance(node.op, ast.Pow):
                self.assertIsInstance(node.right, ast.Constant, path)

    def test_imports(self):
        owners = {path.stem: {node.name for node in tree.body if isinstance(node, (ast.FunctionDef, ast.ClassDef))} | {
            node.targets[0].id for node in tree.body if isinstance(node, ast.Assign)} for path, tree in trees()}
        needed = {path.stem: set() for path in files()}
        for path, node in nodes(ast.ImportFrom):
            names = {alias.name for alias in node.names}
            self.assertTrue(all([alias.asname is None for alias in node.names]) and node.level == 0, path)
            if node.module in LIBRARY:
                self.assertLessEqual(names, LIBRARY[node.module], path)
                continue
            package, stem = node.module.split(".")
            self.assertEqual(package, "onelife", path)
            self.assertLessEqual(names, owners[stem], path)
            needed[path.stem].add(stem)
        while needed:
            free = [stem for stem, others in needed.items() if not others & set(needed)]
            self.assertTrue(free, needed)
            for stem in free:
                del needed[stem]

    def test_imports_are_used(self):
        for path, tree in trees():
            used = {node.id for node in ast.walk(tree) if isinstance(node, ast.Name)}
            for node in tree.body:
                if isinstance(node, ast.ImportFrom):
                    self.assertLessEqual({alias.name for alias in node.names}, used, path)

    def test_names(self):
        for path, tree in trees():
            for name in bound_names(tree):
                self.assertNotIn(name, WORDS_BARRED, path)
                self.assertFalse(hasattr(builtins, name) and name != "__init__", (path, name))
                self.assertFalse(name.startswith("__") and name != "__init__", (path, name))
            taken = {node.name for node in tree.body if isinstance(node, ast.ClassDef)}
            taken |= {alias.name for node in tree.body if isinstance(node, ast.ImportFrom) for alias in node.names}
            for node in ast.walk(tree):
                if isinstance(node, ast.FunctionDef):
                    self.assertFalse(taken & set(local_names(node)), (path, node.name))

    def test_builtins_and_methods(self):
        own = {node.name for _, node in nodes((ast.FunctionDef, ast.ClassDef))}
        for path, tree in trees():
            for node in ast.walk(tree):
                if isinstance(node, ast.Name) and hasattr(builtins, node.id):
                    self.assertIn(node.id, BUILTINS, path)
                if isinstance(node, ast.Call) and isinstance(node.func, ast.Attribute):
                    self.assertIn(node.func.attr, METHODS | own | {"__init__"}, (path, node.lineno))
        attributes = {node.attr for _, node in nodes(ast.Attribute) if isinstance(node.ctx, ast.Store)}
        self.assertFalse(attributes & own)
        self.assertFalse(attributes & (METHODS - {"count", "index", "find", "get", "join", "lower", "split", "strip", "copy"}))

    def test_properties_have_names_of_their_own(self):
        methods = [node for _, kind in nodes(ast.ClassDef) for node in kind.body if isinstance(node, ast.FunctionDef)]
        properties = [node.name for node in methods if node.decorator_list]
        self.assertEqual(len(properties), len(set(properties)))
        others = {node.name for node in methods if not node.decorator_list} | METHODS
        others |= {node.attr for _, node in nodes(ast.Attribute) if isinstance(node.ctx, ast.Store)}
        self.assertFalse(set(properties) & others)

    def test_each_attribute_is_assigned_or_a_method(self):
        given = {node.attr for _, node in nodes(ast.Attribute) if isinstance(node.ctx, ast.Store)}
        given |= {node.name for _, node in nodes(ast.FunctionDef)} | METHODS
        for path, node in nodes(ast.Attribute):
            self.assertIn(node.attr, given, path)

    def test_sets_are_only_measured_and_sorted(self):
        for path, tree in trees():
            fine = [node.args[0] for node in ast.walk(tree) if isinstance(node, ast.Call)
                    and isinstance(node.func, ast.Name) and node.func.id in ("len", "sorted")]
            for node in ast.walk(tree):
                if isinstance(node, ast.Call) and isinstance(node.func, ast.Name) and node.func.id == "set":
                    self.assertIn(node, fine, (path, node.lineno))

    def test_is_only_with_none_and_truth_values(self):
        for path, node in nodes(ast.Compare):
            for operator, right in zip(node.ops, node.comparators):
                if isinstance(operator, (ast.Is, ast.IsNot)):
                    self.assertTrue(isinstance(right, ast.Constant) and right.value in (None, True, False), path)

    def test_what_is_iterated_at_once(self):
        allowed = {"list", "tuple", "dict", "sorted", "sum", "any", "all", "enumerate", "zip", "min", "max"}
        for path, tree in trees():
            fine = set()
            for node in ast.walk(tree):
                if isinstance(node, (ast.For, ast.comprehension)):
                    fine.add(node.iter)
                elif isinstance(node, ast.Call) and isinstance(node.func, ast.Name) and node.func.id in allowed:
                    fine |= set(node.args[:1])
            for node in ast.walk(tree):
                if isinstance(node, ast.GeneratorExp):
                    self.assertIn(node, fine, (path, node.lineno))
                elif isinstance(node, ast.Call):
                    name = getattr(node.func, "id", getattr(node.func, "attr", ""))
                    if name in ("range", "zip", "enumerate", "reversed", "items", "keys", "values"):
                        self.assertIn(node, fine, (path, node.lineno))

    def test_loops_do_not_change_what_they_go_over(self):
        for path, node in nodes(ast.For):
            over = {name.id for name in ast.walk(node.iter) if isinstance(name, ast.Name)}
            for inner in [inner for statement in node.body for inner in ast.walk(statement)]:
                if isinstance(inner, ast.Call) and isinstance(inner.func, ast.Attribute):
                    if isinstance(inner.func.value, ast.Name) and inner.func.attr in ("append", "extend", "pop", "insert"):
                        self.assertNotIn(inner.func.value.id, over, (path, inner.lineno))


if __name__ == "__main__":
    unittest.main()
