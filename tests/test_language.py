"""The rules of LANGUAGE.md that can be read off the files of the package."""

import ast
import builtins
import os
import unittest

HOME = os.path.join(os.path.dirname(os.path.dirname(os.path.abspath(__file__))), "stringrooms")
LIBRARY = {"heapq": {"heappush", "heappop", "heapify"}, "math": {"gcd", "lcm", "isqrt", "comb", "perm", "factorial"},
           "itertools": {"product", "combinations", "permutations", "chain", "accumulate", "pairwise", "islice"},
           "collections": {"defaultdict", "deque"}}
CALLED = {"len", "range", "enumerate", "zip", "min", "max", "sum", "abs", "sorted", "reversed", "int", "str", "bool",
          "list", "tuple", "dict", "set", "isinstance", "ord", "repr", "any", "all", "divmod", "ValueError", "property"}
METHODS = {"append", "clear", "copy", "count", "endswith", "extend", "find", "get", "index", "insert", "isalnum",
           "isalpha", "isdigit", "items", "join", "keys", "lower", "partition", "pop", "remove", "replace", "reverse",
           "setdefault", "split", "startswith", "strip", "update", "upper", "values", "bit_length"}
WORDS = {"type", "typing", "enum", "Enum", "Flag", "Generic", "Protocol", "ABC", "namedtuple", "dataclass", "overload",
         "register", "mro", "elements", "open", "input", "law", "exit", "dir", "vars", "id", "eval", "exec", "help",
         "license", "compile", "globals", "locals", "quit", "sys", "os", "gc", "map", "filter", "iter", "next"}

# These are barred from strings too.
BARRED = {"type", "typing", "typing_extensions", "enum", "Enum", "IntEnum", "StrEnum", "Flag", "IntFlag", "Generic",
          "Protocol", "ABC", "ABCMeta", "namedtuple", "NamedTuple", "TypedDict", "TYPE_CHECKING", "abstractmethod"}


def files():
    for name in sorted(os.listdir(HOME)):
        if name != "__pycache__":
            with open(os.path.join(HOME, name), encoding="utf-8") as file:
                text = file.read()
            yield name, text, ast.parse(text)


def imports(tree):
    """The pairs (file, name) that a file imports from the package, and the names from the library."""
    own, library = [], []
    for node in ast.walk(tree):
        if isinstance(node, ast.ImportFrom):
            for name in node.names:
                (own if node.module.startswith("stringrooms.") else library).append((node.module, name.name))
    return own, library


def own_methods():
    """The names of the methods of the package's classes."""
    return {method.name for _, _, tree in files() for node in tree.body if isinstance(node, ast.ClassDef)
            for method in node.body if isinstance(method, ast.FunctionDef)}


class Language(unittest.TestCase):
    def test_files(self):
        for name, text, tree in files():
            self.assertRegex(name, r"^[a-z_]+\.py$")
            lines = text.split("\n")
            self.assertLessEqual(len(lines), 399, name)
            self.assertTrue(all(char == "\n" or " " <= char <= "~" for char in text), name)
            self.assertLessEqual(max(map(len, lines)), 120, name)
            self.assertTrue(ast.get_docstring(tree), name)

    def test_module_level(self):
        plain = (ast.Constant, ast.Tuple, ast.UnaryOp, ast.List, ast.Dict)
        for name, _, tree in files():
            for node in tree.body:
                if isinstance(node, ast.Assign):
                    self.assertTrue(len(node.targets) == 1 and isinstance(node.value, plain), (name, node.lineno))
                elif isinstance(node, ast.Expr):
                    self.assertIs(node, tree.body[0], name)
                else:
                    self.assertIsInstance(node, (ast.ImportFrom, ast.FunctionDef, ast.ClassDef), name)

    def test_imports(self):
        defined, led = {}, {}
        for name, _, tree in files():
            module = "stringrooms." + name[:-3]
            defined[module] = {node.name for node in tree.body if isinstance(node, (ast.FunctionDef, ast.ClassDef))}
            defined[module] |= {node.targets[0].id for node in tree.body if isinstance(node, ast.Assign)}
            led[module] = imports(tree)
        for module, (own, library) in led.items():
            names = [name for _, name in own + library]
            self.assertEqual(len(names), len(set(names)), module)
            self.assertFalse(set(names) & defined[module], module)
            for source, name in own:
                self.assertIn(name, defined[source], module)
                self.assertFalse(name.startswith("_"), (module, name))
            for source, name in library:
                self.assertIn(name, LIBRARY[source], module)
        done = []
        while len(done) < len(led):
            free = [m for m in led if m not in done and all(source in done for source, _ in led[m][0])]
            self.assertTrue(free, "files that import from each other")
            done += free

    def test_functions(self):
        for name, _, tree in files():
            for node in ast.walk(tree):
                if isinstance(node, ast.FunctionDef):
                    self.assertLessEqual(node.end_lineno - node.lineno + 1, 40, (name, node.name))
                    self.assertTrue(all(word.id == "property" for word in node.decorator_list), (name, node.name))
                self.assertNotIsInstance(node, (ast.AsyncFunctionDef, ast.Global, ast.Import, ast.AnnAssign, ast.Yield,
                                                ast.YieldFrom, ast.With, ast.Div), (name, node))

    def test_names(self):
        taken = set(dir(builtins)) | WORDS
        for name, _, tree in files():
            own, library = imports(tree)
            imported = {word for _, word in own + library}
            functions = {node.name for node in tree.body if isinstance(node, ast.FunctionDef)}
            for node in ast.walk(tree):
                if isinstance(node, (ast.FunctionDef, ast.ClassDef)):
                    self.assertFalse(node.name in taken, (name, node.name))
                    if isinstance(node, ast.FunctionDef):
                        for argument in node.args.args:
                            self.assertFalse(argument.arg in taken | imported | functions, (name, argument.arg))
                elif isinstance(node, ast.Name) and isinstance(node.ctx, ast.Store):
                    self.assertFalse(node.id in taken | imported | functions, (name, node.id, node.lineno))
                elif isinstance(node, ast.Name) and isinstance(node.ctx, ast.Load) and node.id in dir(builtins):
                    self.assertIn(node.id, CALLED, (name, node.lineno))

    def test_expressions(self):
        methods = METHODS | own_methods()
        for name, _, tree in files():
            for node in ast.walk(tree):
                at = (name, getattr(node, "lineno", 0))
                if isinstance(node, ast.Constant) and isinstance(node.value, float):
                    self.fail(at)
                if isinstance(node, ast.BinOp) and isinstance(node.op, ast.Pow):
                    self.assertTrue(isinstance(node.right, ast.Constant) and 0 <= node.right.value <= 64, at)
                if isinstance(node, ast.Compare):
                    for op, right in zip(node.ops, node.comparators):
                        if isinstance(op, (ast.Is, ast.IsNot)):
                            self.assertTrue(isinstance(right, ast.Constant) and right.value in (None, True, False), at)
                if isinstance(node, ast.Call) and isinstance(node.func, ast.Attribute):
                    self.assertIn(node.func.attr, methods, at)
                if isinstance(node, ast.Call) and isinstance(node.func, ast.Name) and node.func.id in dir(builtins):
                    self.assertTrue({word.arg for word in node.keywords} <= {"key", "reverse", "default", "start"}, at)
                if isinstance(node, ast.ExceptHandler):
                    self.assertIn(node.type.id, {"NotPlan", "NotWalk", "NoWay", "NotMap", "NotPoly", "NotRoom"}, at)

    def test_stars_and_inner_generators(self):
        for name, _, tree in files():
            for node in ast.walk(tree):
                if isinstance(node, ast.Call):
                    for argument in node.args:
                        if isinstance(argument, ast.Starred):
                            self.assertIsInstance(argument.value, (ast.Name, ast.Attribute), (name, node.lineno))
                if isinstance(node, (ast.ListComp, ast.DictComp, ast.SetComp)):
                    inner = [other for other in ast.walk(node)
                             if other is not node and isinstance(other, (ast.GeneratorExp, ast.Lambda))]
                    outer = next((f for f in ast.walk(tree) if isinstance(f, ast.FunctionDef)
                                  and f.lineno <= node.lineno <= f.end_lineno))
                    stored = {w.id for s in ast.walk(outer) if isinstance(s, (ast.Assign, ast.For, ast.AugAssign))
                              for w in ast.walk(s.target if not isinstance(s, ast.Assign) else ast.Tuple(s.targets))
                              if isinstance(w, ast.Name)} | {a.arg for a in outer.args.args}
                    own = {w.id for g in node.generators for w in ast.walk(g.target) if isinstance(w, ast.Name)}
                    read = {w.id for g in inner for w in ast.walk(g) if isinstance(w, ast.Name)}
                    self.assertFalse(own & stored & read, (name, node.lineno))

    def test_nothing_kept_that_is_iterated_once(self):
        kept = {"range", "zip", "enumerate", "reversed", "map", "items", "keys", "values"}
        for name, _, tree in files():
            for node in ast.walk(tree):
                if isinstance(node, (ast.Assign, ast.Return)) and isinstance(node.value, ast.Call):
                    call = node.value.func
                    word = call.id if isinstance(call, ast.Name) else call.attr
                    self.assertFalse(word in kept, (name, node.lineno))
                if isinstance(node, ast.Assign):
                    self.assertNotIsInstance(node.value, ast.GeneratorExp, (name, node.lineno))

    def test_sets(self):
        for name, _, tree in files():
            outer = {child: node for node in ast.walk(tree) for child in ast.iter_child_nodes(node)}
            for node in ast.walk(tree):
                made = isinstance(node, (ast.Set, ast.SetComp)) or (
                    isinstance(node, ast.Call) and isinstance(node.func, ast.Name) and node.func.id == "set")
                if made:
                    around = outer[node]
                    fits = isinstance(around, ast.Compare) or (
                        isinstance(around, ast.Call) and around.func.id in ("sorted", "len"))
                    self.assertTrue(fits, (name, node.lineno))

    def test_strings(self):
        for name, _, tree in files():
            for node in ast.walk(tree):
                if isinstance(node, ast.Constant) and isinstance(node.value, str) and len(node.value) < 40:
                    self.assertFalse("%" in node.value or node.value in BARRED, (name, node.lineno))


if __name__ == "__main__":
    unittest.main()
