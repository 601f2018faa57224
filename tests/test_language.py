"""The form of the code: what of LANGUAGE.md a program can see in the files of the package."""

import ast
import pathlib
import re
import unittest
import warnings

PACKAGE = pathlib.Path(__file__).resolve().parent.parent / "twicedated"
FILES = sorted(PACKAGE.rglob("*.py"))
BUILTINS = set("len range enumerate zip min max sum abs sorted reversed int str bool bytes list tuple dict set isinstance"
               " ord repr any all divmod pow Exception ValueError TypeError KeyError IndexError".split())
METHODS = set("append clear copy count endswith extend find get index insert isalnum isalpha isdigit islower isspace"
              " isupper items join keys ljust lower lstrip partition pop remove replace reverse rfind rjust rpartition"
              " rsplit rstrip setdefault split splitlines startswith strip update upper values zfill bit_length add"
              " discard".split())
SPECIAL = set("__init__ __eq__ __bool__".split())
LIBRARY = {"heapq": {"heappush", "heappop", "heapify"}, "itertools": {"product", "combinations", "pairwise", "chain"},
           "math": {"gcd", "comb"}, "collections": {"defaultdict"}}
STATEMENTS = (ast.Assign, ast.AugAssign, ast.If, ast.While, ast.For, ast.Return, ast.Break, ast.Continue, ast.Pass,
              ast.Raise, ast.Assert, ast.Delete, ast.Try, ast.Expr, ast.FunctionDef, ast.ClassDef, ast.ImportFrom)
BARRED = re.compile(r"\b(type|typing|enum|Enum|Generic|Protocol|ABC|namedtuple|NamedTuple|abstractmethod|_wall"
                    r"|register|mro|elements|open|input|law|eval|exec|id|vars|dir|globals|locals)\b")


def trees():
    """The name and the tree of each file."""
    for path in FILES:
        yield path.name, ast.parse(path.read_text(encoding="utf-8"))


def nodes(*kinds):
    """The place and the node of each node of some kinds."""
    for name, tree in trees():
        for node in ast.walk(tree):
            if isinstance(node, kinds):
                yield f"{name}:{getattr(node, 'lineno', 0)}", node


def own_names():
    """The names of all functions, methods and classes of the package."""
    return {node.name for _, node in nodes(ast.FunctionDef, ast.ClassDef)}


class LanguageTest(unittest.TestCase):
    def test_files(self):
        self.assertTrue(FILES)
        for path in PACKAGE.rglob("*"):
            if "__pycache__" in path.parts:
                continue
            self.assertRegex(path.name, r"^(__init__|[a-z][a-z0-9_]*)\.py$")
            lines = path.read_bytes().decode("ascii").split("\n")
            self.assertLess(len(lines), 400, path.name)
            for number, line in enumerate(lines):
                self.assertTrue(len(line) <= 120 and re.fullmatch("[ -~]*", line), f"{path.name}:{number + 1}")
            self.assertEqual(lines[-1], "", path.name)

    def test_no_warnings(self):
        with warnings.catch_warnings():
            warnings.simplefilter("error")
            for path in FILES:
                compile(path.read_text(encoding="utf-8"), path.name, "exec")

    def test_imports(self):
        for place, node in nodes(ast.Import, ast.ImportFrom):
            self.assertIsInstance(node, ast.ImportFrom, place)
            self.assertEqual(node.level, 0, place)
            names = {alias.name for alias in node.names}
            self.assertTrue(all(alias.asname is None for alias in node.names), place)
            if node.module in LIBRARY:
                self.assertLessEqual(names, LIBRARY[node.module], place)
            else:
                path = PACKAGE.parent / (node.module.replace(".", "/") + ".py")
                self.assertIn(path, FILES, place)
                defined = {part.name for part in ast.parse(path.read_text()).body
                           if isinstance(part, (ast.FunctionDef, ast.ClassDef))}
                defined |= {target.id for part in ast.parse(path.read_text()).body if isinstance(part, ast.Assign)
                            for target in part.targets}
                self.assertLessEqual(names, defined, place)

    def test_no_ring_of_imports(self):
        uses = {name[:-3]: {node.module.split(".")[-1] for node in tree.body if isinstance(node, ast.ImportFrom)}
                for name, tree in trees()}
        while uses:
            free = [name for name in uses if not uses[name] & set(uses)]
            self.assertTrue(free, sorted(uses))
            uses = {name: uses[name] for name in uses if name not in free}

    def assert_plain(self, value, bound, place):
        """A value at module level is plain, or of functions that are defined above it."""
        if isinstance(value, ast.Dict):
            for part in [*value.keys, *value.values]:
                self.assert_plain(part, bound, place)
        elif isinstance(value, ast.Name):
            self.assertIn(value.id, bound, place)
        else:
            ast.literal_eval(value)

    def test_module_level(self):
        for name, tree in trees():
            bound = []
            for node in tree.body:
                place = f"{name}:{node.lineno}"
                self.assertIsInstance(node, (ast.Expr, ast.ImportFrom, ast.FunctionDef, ast.ClassDef, ast.Assign), place)
                if isinstance(node, ast.Expr):
                    self.assertIsInstance(node.value, ast.Constant, place)
                if isinstance(node, ast.Assign):
                    self.assert_plain(node.value, bound, place)
                    bound += [target.id for target in node.targets]
                elif isinstance(node, ast.ImportFrom):
                    bound += [alias.name for alias in node.names]
                elif not isinstance(node, ast.Expr):
                    bound.append(node.name)
            self.assertEqual(len(bound), len(set(bound)), name)

    def test_statements_and_sizes(self):
        for place, node in nodes(ast.stmt):
            self.assertIsInstance(node, STATEMENTS, place)
        for place, node in nodes(ast.FunctionDef):
            self.assertLessEqual(node.end_lineno - node.lineno + 1, 40, place)
            self.assertEqual(node.decorator_list, [], place)
            self.assertTrue(not node.name.startswith("__") or node.name in SPECIAL, place)
        for place, node in nodes(ast.Call):
            # Classes with == are here, so these take lists.
            if isinstance(node.func, ast.Name) and node.func.id in ("any", "all", "min", "max", "sum", "sorted"):
                self.assertFalse(any(isinstance(given, ast.GeneratorExp) for given in node.args), place)
        for place, node in nodes(ast.ClassDef):
            self.assertLessEqual(len(node.bases), 1, place)

    def test_names(self):
        own = own_names()
        import builtins
        for name, tree in trees():
            imported = {alias.name for node in tree.body if isinstance(node, ast.ImportFrom) for alias in node.names}
            classes = {node.name for node in tree.body if isinstance(node, ast.ClassDef)}
            for node in ast.walk(tree):
                place = f"{name}:{getattr(node, 'lineno', 0)}"
                if isinstance(node, ast.Name) and isinstance(node.ctx, ast.Load) and hasattr(builtins, node.id):
                    self.assertIn(node.id, BUILTINS, place)
                given = node.arg if isinstance(node, ast.arg) else None
                if isinstance(node, ast.Name) and isinstance(node.ctx, ast.Store):
                    given = node.id
                # A doctest gives `_` to the builtins.
                if given not in (None, "_"):
                    self.assertFalse(hasattr(builtins, given) or given in imported | classes, f"{place} {given}")
                if isinstance(node, ast.Call) and isinstance(node.func, ast.Attribute):
                    self.assertIn(node.func.attr, METHODS | own, place)

    def test_signs(self):
        for place, node in nodes(ast.Compare):
            for sign, right in zip(node.ops, node.comparators):
                if isinstance(sign, (ast.Is, ast.IsNot)):
                    self.assertTrue(isinstance(right, ast.Constant) and right.value in (None, True, False), place)
        for place, node in nodes(ast.BinOp):
            self.assertNotIsInstance(node.op, (ast.Div, ast.MatMult), place)
        for place, node in nodes(ast.Constant):
            self.assertNotIsInstance(node.value, (float, complex), place)
            if isinstance(node.value, str):
                self.assertNotIn("%", node.value, place)

    def test_words(self):
        for name, tree in trees():
            for node in ast.walk(tree):
                for field in ("id", "attr", "arg", "name"):
                    word = getattr(node, field, None)
                    if isinstance(word, str):
                        self.assertIsNone(BARRED.fullmatch(word), f"{name} {word}")

    def test_generators(self):
        functions = [node for _, node in nodes(ast.FunctionDef)]
        made = [node.name for node in functions if any(isinstance(part, (ast.Yield, ast.YieldFrom)) for part in ast.walk(node))]
        for name in made:
            self.assertEqual(sum(1 for node in functions if node.name == name), 1, name)
        for name, tree in trees():
            heads = [node.iter for node in ast.walk(tree) if isinstance(node, (ast.For, ast.comprehension))]
            for node in ast.walk(tree):
                if isinstance(node, ast.Call) and getattr(node.func, "id", getattr(node.func, "attr", None)) in made:
                    self.assertTrue(node in heads, f"{name}:{node.lineno}")

    def test_names_that_are_methods_and_attributes(self):
        for place, node in nodes(ast.ClassDef):
            methods = {part.name for part in node.body if isinstance(part, ast.FunctionDef)}
            kept = {part.attr for part in ast.walk(node) if isinstance(part, ast.Attribute) and isinstance(part.ctx, ast.Store)}
            self.assertFalse(methods & kept, place)

    def test_sets(self):
        for place, node in nodes(ast.For, ast.comprehension):
            self.assertNotIsInstance(node.iter, (ast.Set, ast.SetComp), place)
            if isinstance(node.iter, ast.Call) and isinstance(node.iter.func, ast.Name):
                self.assertNotIn(node.iter.func.id, ("set", "frozenset"), place)


if __name__ == "__main__":
    unittest.main()
