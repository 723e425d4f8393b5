"""The package keeps to the small part of Python that it is written in, as far as a look at its files tells."""

import ast
import builtins
import pathlib
import re
import unittest

PACKAGE = pathlib.Path(__file__).resolve().parent.parent / "touchall"
STATEMENTS = (ast.Assign, ast.AugAssign, ast.If, ast.While, ast.For, ast.Return, ast.Break, ast.Continue, ast.Pass,
              ast.Raise, ast.Try, ast.Expr, ast.FunctionDef, ast.ClassDef, ast.ImportFrom)
NOT_WRITTEN = (ast.SetComp, ast.DictComp, ast.GeneratorExp, ast.NamedExpr, ast.Starred, ast.Yield, ast.YieldFrom,
               ast.Await, ast.Div, ast.MatMult, ast.AnnAssign)
OWN_NAMES = set("""len range enumerate zip min max sum abs sorted reversed int str bool list tuple dict set frozenset
isinstance ord repr any all divmod Exception ValueError TypeError KeyError IndexError LookupError ZeroDivisionError
ArithmeticError OverflowError RuntimeError NotImplementedError AttributeError StopIteration""".split())
OWN_METHODS = set("""append clear copy count endswith extend find get index insert isalnum isalpha isdigit islower
isspace isupper items join keys ljust lower lstrip partition pop remove replace reverse rfind rjust rpartition rsplit
rstrip setdefault split splitlines startswith strip update upper values zfill bit_length""".split())
DUNDERS = {"__init__", "__eq__", "__repr__", "__str__", "__len__"}
KEYWORDS = {"sorted": {"key", "reverse"}, "min": {"key", "default"}, "max": {"key", "default"}, "sum": {"start"},
            "enumerate": {"start"}, "zip": {"strict"}}
WORDS_OUT = re.compile(r"\b(type|typing|typing_extensions|enum|Enum|IntEnum|StrEnum|Flag|IntFlag|Generic|Protocol|ABC|"
                       r"ABCMeta|namedtuple|NamedTuple|TypedDict|TYPE_CHECKING|abstractmethod)\b"
                       r"|dataclass|overload|contextmanager")
NAMES_OUT = {"register", "mro", "elements", "open", "input", "version_info", "with_traceback", "add_note", "format",
             "format_map", "sort", "chr", "sys"}
CHANGES = {"append", "clear", "extend", "insert", "pop", "remove", "reverse", "setdefault", "update"}
WALKED_AT_ONCE = {"zip", "enumerate", "reversed", "range"}
WALKERS = {"list", "tuple", "dict", "sorted", "sum", "any", "all", "enumerate", "zip", "min", "max"}


def files():
    return sorted(PACKAGE.glob("*.py"))


def tree_of(path):
    return ast.parse(path.read_text(encoding="ascii"))


def parents_of(tree):
    return {child: node for node in ast.walk(tree) for child in ast.iter_child_nodes(node)}


def bound_at_top(tree):
    names = []
    for node in tree.body:
        if isinstance(node, (ast.FunctionDef, ast.ClassDef)):
            names.append(node.name)
        elif isinstance(node, ast.Assign):
            names += [target.id for target in node.targets]
        elif isinstance(node, ast.ImportFrom):
            names += [alias.name for alias in node.names]
    return names


def functions_in(tree):
    return [node for node in ast.walk(tree) if isinstance(node, ast.FunctionDef)]


def locals_of(function):
    names = {arg.arg for arg in function.args.args}
    names |= {node.arg for node in ast.walk(function) if isinstance(node, ast.arg)}
    return names | {node.id for node in ast.walk(function)
                    if isinstance(node, ast.Name) and isinstance(node.ctx, ast.Store)}


def called(node):
    return node.func.id if isinstance(node, ast.Call) and isinstance(node.func, ast.Name) else None


def method(node):
    return node.func.attr if isinstance(node, ast.Call) and isinstance(node.func, ast.Attribute) else None


def is_docstring(node, parents):
    above = parents.get(node)
    return isinstance(above, ast.Module) and above.body[0] is node and isinstance(node.value, ast.Constant)


class TestLanguage(unittest.TestCase):
    def each(self):
        return [(path, tree_of(path)) for path in files()]

    def test_files(self):
        for path in PACKAGE.iterdir():
            if path.name != "__pycache__":
                self.assertRegex(path.name, r"^(__init__|[a-z][a-z0-9_]*)\.py$")
                self.assertNotIn(path.stem, set(dir(builtins)) | {"test", "tests", "testing", "site", "conftest"})
                text = path.read_text(encoding="ascii")
                self.assertRegex(text, r"^[ -~\n]*$")
                self.assertIsNone(WORDS_OUT.search(text), path.name)
                self.assertLessEqual(len(text.split("\n")), 400)
                self.assertLessEqual(max(len(row) for row in text.split("\n")), 120)

    def test_imports(self):
        draws = {}
        for path, tree in self.each():
            draws[path.stem] = []
            for node in ast.walk(tree):
                self.assertNotIsInstance(node, ast.Import)
                if isinstance(node, ast.ImportFrom):
                    self.assertIn(node, tree.body)
                    self.assertTrue(node.level == 0 and node.module.startswith("touchall."))
                    drawn = node.module.split(".")[1]
                    draws[path.stem].append(drawn)
                    there = [top for top in tree_of(PACKAGE / (drawn + ".py")).body
                             if not isinstance(top, ast.ImportFrom)]
                    for alias in node.names:
                        self.assertIsNone(alias.asname)
                        self.assertIn(alias.name, bound_at_top(ast.Module(there, [])))
        done = []
        while len(done) < len(draws):
            ready = [name for name in draws if name not in done and all(other in done for other in draws[name])]
            self.assertTrue(ready, "files draw from one another")
            done += ready

    def test_what_is_imported_is_used(self):
        for path, tree in self.each():
            used = {node.id for node in ast.walk(tree) if isinstance(node, ast.Name)}
            for node in tree.body:
                if isinstance(node, ast.ImportFrom):
                    self.assertLessEqual({alias.name for alias in node.names}, used, path.name)

    def test_top(self):
        for path, tree in self.each():
            names = bound_at_top(tree)
            self.assertEqual(len(names), len(set(names)))
            for node in tree.body[1:]:
                self.assertIsInstance(node, (ast.ImportFrom, ast.FunctionDef, ast.ClassDef, ast.Assign))
                if isinstance(node, ast.Assign):
                    ast.literal_eval(node.value)
            self.assertIsInstance(ast.get_docstring(tree), str)

    def test_statements_and_expressions(self):
        for path, tree in self.each():
            parents = parents_of(tree)
            for node in ast.walk(tree):
                where = f"{path.name}:{getattr(node, 'lineno', 0)}"
                if isinstance(node, ast.stmt):
                    self.assertIsInstance(node, STATEMENTS, where)
                self.assertNotIsInstance(node, NOT_WRITTEN, where)
                if isinstance(node, ast.Assign):
                    self.assertEqual(len(node.targets), 1, where)
                    self.assertNotIsInstance(node.targets[0], (ast.Tuple, ast.List), where)
                if isinstance(node, ast.Expr) and not is_docstring(node, parents):
                    self.assertIsInstance(node.value, ast.Call, where)
                if isinstance(node, (ast.For, ast.While)):
                    self.assertEqual(node.orelse, [], where)
                if isinstance(node, ast.ListComp):
                    self.assertTrue(len(node.generators) == 1 and len(node.generators[0].ifs) <= 1, where)
                if isinstance(node, ast.Constant):
                    self.assertNotIsInstance(node.value, (float, bytes, complex), where)
                    self.assertFalse(isinstance(node.value, str) and "%" in node.value, where)

    def test_is_stands_beside_none_and_truths(self):
        for path, tree in self.each():
            for node in ast.walk(tree):
                if isinstance(node, ast.Compare):
                    for operator, right in zip(node.ops, node.comparators):
                        if isinstance(operator, (ast.Is, ast.IsNot)):
                            self.assertIsInstance(right, ast.Constant)
                            self.assertIn(right.value, (None, True, False))

    def test_functions_and_classes(self):
        for path, tree in self.each():
            imports = [alias.name for node in tree.body if isinstance(node, ast.ImportFrom) for alias in node.names]
            classes = [node.name for node in tree.body if isinstance(node, ast.ClassDef)]
            for node in functions_in(tree):
                self.assertLessEqual(node.end_lineno - node.lineno + 1, 40, node.name)
                args = node.args
                self.assertFalse(args.vararg or args.kwarg or args.kwonlyargs or args.posonlyargs, node.name)
                self.assertEqual(node.decorator_list, [])
                self.assertFalse(locals_of(node) & (set(imports) | set(classes) | set(dir(builtins))), node.name)
            for node in ast.walk(tree):
                if isinstance(node, ast.ClassDef):
                    self.assertLessEqual(len(node.bases), 1)
                    self.assertEqual(node.decorator_list + node.keywords, [])
                    for part in node.body:
                        self.assertIsInstance(part, (ast.FunctionDef, ast.Pass))

    def test_names(self):
        for path, tree in self.each():
            known = set(bound_at_top(tree))
            for node in ast.walk(tree):
                if isinstance(node, (ast.FunctionDef, ast.ClassDef)):
                    self.assertTrue(node.name in DUNDERS or re.match(r"^[A-Za-z]\w*$", node.name), node.name)
                elif isinstance(node, ast.arg):
                    self.assertRegex(node.arg, r"^[A-Za-z]\w*$")
                elif isinstance(node, ast.Name):
                    self.assertRegex(node.id, r"^[A-Za-z]\w*$")
                    self.assertNotIn(node.id, NAMES_OUT)
                    if node.id in dir(builtins) and node.id not in known:
                        self.assertIn(node.id, OWN_NAMES)
                elif isinstance(node, ast.Attribute):
                    self.assertTrue(node.attr == "__init__" or re.match(r"^[A-Za-z]\w*$", node.attr), node.attr)
                    self.assertNotIn(node.attr, NAMES_OUT)

    def test_methods_and_keywords(self):
        methods = {part.name for path in files() for node in tree_of(path).body if isinstance(node, ast.ClassDef)
                   for part in node.body if isinstance(part, ast.FunctionDef)}
        for path, tree in self.each():
            for node in ast.walk(tree):
                if method(node) is not None:
                    self.assertIn(method(node), OWN_METHODS | methods)
                if called(node) in OWN_NAMES:
                    self.assertLessEqual({word.arg for word in node.keywords}, KEYWORDS.get(called(node), set()))

    def test_walked_at_once(self):
        for path, tree in self.each():
            parents = parents_of(tree)
            for node in ast.walk(tree):
                if called(node) in WALKED_AT_ONCE or method(node) in ("items", "keys", "values"):
                    above = parents[node]
                    walked = isinstance(above, (ast.For, ast.comprehension)) and above.iter is node
                    self.assertTrue(walked or called(above) in WALKERS, f"{path.name}:{node.lineno}")

    def test_what_a_loop_walks_is_not_changed_in_it(self):
        for path, tree in self.each():
            for node in ast.walk(tree):
                if isinstance(node, ast.For):
                    walked = {part.id for part in ast.walk(node.iter) if isinstance(part, ast.Name)}
                    for part in [part for row in node.body for part in ast.walk(row)]:
                        where = f"{path.name}:{getattr(part, 'lineno', 0)}"
                        if method(part) in CHANGES and isinstance(part.func.value, ast.Name):
                            self.assertNotIn(part.func.value.id, walked, where)
                        if isinstance(part, ast.Subscript) and isinstance(part.ctx, ast.Store):
                            self.assertNotIn(getattr(part.value, "id", None), walked, where)

    def test_methods_and_values_of_objects(self):
        methods, values = [], set()
        for path, tree in self.each():
            for node in ast.walk(tree):
                if isinstance(node, ast.ClassDef):
                    names = [part.name for part in node.body if isinstance(part, ast.FunctionDef)]
                    self.assertEqual(len(names), len(set(names)))
                    methods += names
                if isinstance(node, ast.Attribute) and isinstance(node.ctx, ast.Store):
                    self.assertEqual(getattr(node.value, "id", None), "self", path.name)
                    values.add(node.attr)
        self.assertFalse(set(methods) & values)
        own = {name for kind in (str, int, list, dict, set, bytes, tuple) for name in dir(kind)}
        self.assertFalse((set(methods) - {"__init__"} | values) & own)

    def test_sets_are_not_kept(self):
        for path, tree in self.each():
            parents = parents_of(tree)
            for node in ast.walk(tree):
                self.assertNotIsInstance(node, ast.Set)
                if called(node) in ("set", "frozenset"):
                    above = parents[node]
                    fine = isinstance(above, (ast.Compare, ast.BinOp)) or called(above) in ("len", "sorted")
                    self.assertTrue(fine, f"{path.name}:{node.lineno}")


if __name__ == "__main__":
    unittest.main()
