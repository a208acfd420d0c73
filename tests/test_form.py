"""The form of the code: the rules of shared/LANGUAGE.md that a look at the text can tell, by their numbers."""

import ast
import builtins
import re
import unittest
from pathlib import Path

PACKAGE = Path(__file__).resolve().parent.parent / "spoilorder"
FILES = sorted(PACKAGE.glob("**/*.py"))
LIBRARY = {
    "heapq": {"heappush", "heappop", "heapify", "heapreplace", "heappushpop"},
    "math": {"gcd", "lcm", "isqrt", "comb", "perm", "factorial"},
    "itertools": {"product", "combinations", "permutations"},
}
BUILTINS = set("""len range enumerate zip min max sum abs sorted reversed int str bool bytes list tuple dict set
    frozenset isinstance ord repr any all divmod iter next map property staticmethod classmethod super Exception
    ValueError TypeError KeyError IndexError LookupError ZeroDivisionError ArithmeticError OverflowError RuntimeError
    NotImplementedError AttributeError StopIteration NotImplemented True False None""".split())
BARRED_NAMES = set("""register mro elements open input law version_info with_traceback add_note attrgetter breakpoint
    builtins compile copyright credits delattr dir eval exec exit gc getattr globals hasattr help id importlib license
    locals methodcaller os quit setattr super type vars sys""".split())
BARRED_WORDS = re.compile(
    r"\b(type|typing|typing_extensions|enum|Enum|IntEnum|StrEnum|Flag|IntFlag|Generic|Protocol|ABC|ABCMeta|namedtuple|"
    r"NamedTuple|TypedDict|TYPE_CHECKING|abstractmethod)\b|dataclass|overload|contextmanager")
METHODS = set("""append clear copy count endswith extend find get index insert isalnum isalpha isdigit islower isspace
    isupper items join keys ljust lower lstrip partition pop remove replace reverse rfind rjust rpartition rsplit rstrip
    setdefault split splitlines startswith strip update upper values zfill bit_length add discard title capitalize
    swapcase casefold center expandtabs removeprefix removesuffix rindex isascii isdecimal isnumeric istitle
    isidentifier isprintable translate encode""".split())
DUNDERS = set("""__init__ __eq__ __repr__ __str__ __len__ __enter__ __exit__ __call__ __iter__""".split())
LISTED_ONLY = {"any", "all", "min", "max", "sum", "sorted"}
VIEWS = {"zip", "enumerate", "reversed", "items", "keys", "values"}
BARRED_NODES = (
    ast.Global, ast.AsyncFor, ast.AsyncFunctionDef, ast.AsyncWith, ast.Await, ast.Div, ast.AnnAssign, ast.Import)


def named(call):
    """The name that a call is by, "" if by none."""
    return call.func.id if isinstance(call.func, ast.Name) else getattr(call.func, "attr", "")


def bound(tree):
    """All names that a file gives a meaning, each with its line."""
    for node in ast.walk(tree):
        if isinstance(node, ast.Name) and isinstance(node.ctx, ast.Store):
            yield node.id, node.lineno
        elif isinstance(node, (ast.FunctionDef, ast.ClassDef)):
            yield node.name, node.lineno
        elif isinstance(node, ast.arg):
            yield node.arg, node.lineno
        elif isinstance(node, ast.ExceptHandler) and node.name:
            yield node.name, node.lineno
        elif isinstance(node, ast.alias):
            yield node.asname or node.name, node.lineno


class FormTest(unittest.TestCase):
    def setUp(self):
        self.texts = {path: path.read_text(encoding="utf-8") for path in FILES}
        self.trees = {path: ast.parse(text) for path, text in self.texts.items()}
        self.own_methods = {
            node.name for tree in self.trees.values() for made in ast.walk(tree) if isinstance(made, ast.ClassDef)
            for node in made.body if isinstance(node, ast.FunctionDef)}
        # Class-wide rules of L7 hold as soon as one class of the package has __eq__.
        self.assertIn("__eq__", self.own_methods)

    def nodes(self, *kinds):
        for path, tree in self.trees.items():
            for node in ast.walk(tree):
                if isinstance(node, kinds):
                    yield f"{path.name}:{getattr(node, 'lineno', 0)}", node

    def test_files(self):
        """L1, L14"""
        others = [path for path in PACKAGE.rglob("*") if path.suffix != ".py" and "__pycache__" not in path.parts]
        self.assertEqual(others, [])
        for path, text in self.texts.items():
            self.assertRegex(path.name, r"^(__init__|[a-z][a-z0-9_]*)\.py$")
            self.assertFalse(path.name.startswith(("law_", "test")), path)
            self.assertNotIn(path.stem, vars(builtins))
            self.assertIsNone(re.search(r"[^\n -~]", text), path)

    def test_imports(self):
        """L2, L16"""
        links = {}
        for path, tree in self.trees.items():
            links[path.stem] = []
            for node in ast.walk(tree):
                if not isinstance(node, ast.ImportFrom) or node.module == "__future__":
                    continue
                self.assertEqual(node.level, 0)
                names = {alias.name for alias in node.names}
                if node.module in LIBRARY:
                    self.assertLessEqual(names, LIBRARY[node.module])
                    continue
                head, _, stem = node.module.partition(".")
                self.assertEqual(head, PACKAGE.name)
                there = ast.parse((PACKAGE / f"{stem}.py").read_text()).body
                defined = {part.name for part in there if isinstance(part, (ast.FunctionDef, ast.ClassDef))}
                defined |= {part.targets[0].id for part in there if isinstance(part, ast.Assign)}
                self.assertLessEqual(names, defined, path)
                links[path.stem].append(stem)
        while links:
            ends = [stem for stem, to in links.items() if not [one for one in to if one in links]]
            self.assertTrue(ends, f"files import from each other: {sorted(links)}")
            links = {stem: to for stem, to in links.items() if stem not in ends}

    def test_module_level(self):
        """L3, L15"""
        for path, tree in self.trees.items():
            seen = []
            for place, node in enumerate(tree.body):
                docstring = place == 0 and isinstance(node, ast.Expr)
                kinds = (ast.ImportFrom, ast.FunctionDef, ast.ClassDef, ast.Assign)
                self.assertTrue(docstring or isinstance(node, kinds), f"{path.name}:{node.lineno}")
                seen += [node.name] if isinstance(node, (ast.FunctionDef, ast.ClassDef)) else []
                seen += [target.id for target in node.targets] if isinstance(node, ast.Assign) else []
                seen += [alias.name for alias in node.names] if isinstance(node, ast.ImportFrom) else []
            self.assertEqual(sorted(seen), sorted(set(seen)), path)

    def test_sizes(self):
        """L10"""
        for path, text in self.texts.items():
            rows = text.split("\n")
            self.assertLessEqual(len(rows), 399, path)
            self.assertLessEqual(max(len(row) for row in rows), 120, path)
        for where, node in self.nodes(ast.FunctionDef):
            self.assertLessEqual(node.end_lineno - node.lineno + 1, 40, where)

    def test_nodes(self):
        """L6, L7, L19, L20, L21"""
        for where, node in self.nodes(*BARRED_NODES):
            self.fail(f"{where}: {node.__class__.__name__}")
        for where, node in self.nodes(ast.Constant):
            self.assertNotIsInstance(node.value, (float, complex), where)
        for where, node in self.nodes(ast.Compare):
            for sign, other in zip(node.ops, node.comparators):
                if isinstance(sign, (ast.Is, ast.IsNot)):
                    self.assertTrue(isinstance(other, ast.Constant) and other.value in (None, True, False), where)
        for where, node in self.nodes(ast.Raise):
            self.assertTrue(node.exc is None or isinstance(node.exc, ast.Call), where)

    def test_decorators_and_methods(self):
        """L4, L5, L28"""
        for where, node in self.nodes(ast.FunctionDef, ast.ClassDef):
            for over in node.decorator_list:
                name = over.attr if isinstance(over, ast.Attribute) else over.id
                self.assertIn(name, ("property", "setter", "staticmethod", "classmethod"), where)
            if node.name.startswith("__"):
                self.assertIn(node.name, DUNDERS, where)
        for where, node in self.nodes(ast.FunctionDef):
            if node.name == "__eq__":
                self.assertRegex(ast.unparse(node.body[0]), r"^return isinstance\(other, \w+\) and self\.", where)

    def test_classes_and_properties(self):
        """L5, L12, L18"""
        made = [node for _, node in self.nodes(ast.ClassDef)]
        properties = {
            node.name for one in made for node in one.body
            if isinstance(node, ast.FunctionDef) and [over for over in node.decorator_list if over.id == "property"]}
        self.assertIn("all_items", properties)
        for one in made:
            self.assertRegex(one.name, "^[A-Z][A-Za-z0-9]*$")
            plain = {
                node.name for node in one.body if isinstance(node, ast.FunctionDef) and not node.decorator_list}
            self.assertEqual(plain & properties, set(), one.name)
        for where, node in self.nodes(ast.Attribute):
            if isinstance(node.ctx, ast.Store):
                self.assertNotIn(node.attr, properties, where)

    def test_properties_and_methods_apart(self):
        """L5, L26"""
        properties, methods = set(), set()
        for _, made in self.nodes(ast.ClassDef):
            for node in made.body:
                if isinstance(node, ast.FunctionDef):
                    (properties if node.decorator_list else methods).add(node.name)
        self.assertEqual(properties & methods, set())
        builtin = {name for one in ("", 0, [], {}, set(), b"", ()) for name in dir(one)}
        self.assertEqual(properties & builtin, set())
        self.assertLessEqual({name for name in methods & builtin if not name.startswith("__")}, METHODS)

    def test_with_and_iteration(self):
        """L5, L6"""
        entered = [
            {node.name: node for node in made.body if isinstance(node, ast.FunctionDef)}
            for _, made in self.nodes(ast.ClassDef)]
        self.assertEqual(len([methods for methods in entered if "__exit__" in methods]), 1)
        for methods in entered:
            self.assertEqual("__enter__" in methods, "__exit__" in methods)
            if "__exit__" in methods:
                method = methods["__exit__"]
                self.assertEqual([one.arg for one in method.args.args], ["self", "kind", "value", "trace"])
                names = [node.id for node in ast.walk(method) if isinstance(node, ast.Name)]
                self.assertLessEqual(set(names), {"self", "kind"})
                kinds = (ast.If, ast.Assign, ast.Pass)
                rows = [node for node in ast.walk(method) if isinstance(node, ast.stmt) and node is not method]
                self.assertTrue(all(isinstance(node, kinds) for node in rows))
                self.assertFalse([node for node in ast.walk(method) if isinstance(node, ast.Call)])
            if "__iter__" in methods:
                self.assertEqual(len(methods["__iter__"].body), 1)
                self.assertRegex(ast.unparse(methods["__iter__"].body[0]), r"^return iter\(self(\.\w+){1,2}\)$")
                self.assertNotIn("__len__", methods)
        for where, node in self.nodes(ast.With):
            self.assertTrue(all(isinstance(item.context_expr, ast.Call) for item in node.items), where)

    def test_methods_of_builtins_without_keywords(self):
        """L22, L25"""
        for where, node in self.nodes(ast.Call):
            if isinstance(node.func, ast.Attribute) and node.func.attr in METHODS:
                self.assertEqual(node.keywords, [], where)

    def test_lambdas(self):
        """L13"""
        lines = [where for where, _ in self.nodes(ast.Lambda)]
        self.assertEqual(len(lines), len(set(lines)))

    def test_everything_imported_is_used(self):
        for path, tree in self.trees.items():
            names = {alias.name for node in tree.body if isinstance(node, ast.ImportFrom) for alias in node.names}
            used = {node.id for node in ast.walk(tree) if isinstance(node, ast.Name)}
            self.assertLessEqual(names, used, path)

    def test_calls_of_own_functions(self):
        """L22"""
        own = {}
        for path, tree in self.trees.items():
            for node in tree.body:
                if isinstance(node, ast.FunctionDef):
                    own.setdefault(node.name, []).append((path, node.args))
        for path, tree in self.trees.items():
            for node in ast.walk(tree):
                starred = isinstance(node, ast.Call) and [part for part in node.args if isinstance(part, ast.Starred)]
                if not isinstance(node, ast.Call) or not isinstance(node.func, ast.Name) or starred:
                    continue
                told = own.get(node.func.id, [])
                told = [args for where, args in told if where == path] or [args for _, args in told]
                if told:
                    many = len(node.args) + len([part for part in node.keywords if part.arg not in [
                        one.arg for one in told[0].kwonlyargs]])
                    self.assertEqual(many, len(told[0].args), f"{path.name}:{node.lineno}")

    def test_names(self):
        """L12, L15, L17"""
        for path, tree in self.trees.items():
            at_top = {node.name for node in tree.body if isinstance(node, ast.ClassDef)}
            at_top |= {alias.name for node in tree.body if isinstance(node, ast.ImportFrom) for alias in node.names}
            in_classes = {
                (node.name, node.lineno) for made in tree.body if isinstance(made, ast.ClassDef) for node in made.body
                if isinstance(node, ast.FunctionDef)}
            for name, line in bound(tree):
                where = f"{path.name}:{line}: {name}"
                self.assertNotIn(name, BARRED_NAMES, where)
                # A method may be called next: L8.
                if (name, line) not in in_classes or name != "next":
                    self.assertNotIn(name, vars(builtins).keys(), where)
                self.assertRegex(name, r"^(_|_?[A-Za-z][A-Za-z0-9_]*|__[a-z]+__)$", where)
            for node in ast.walk(tree):
                if isinstance(node, ast.arg):
                    self.assertNotIn(node.arg, at_top, path)
                if isinstance(node, ast.Name) and isinstance(node.ctx, ast.Store):
                    self.assertNotIn(node.id, at_top, path)

    def test_builtins(self):
        """L8"""
        for path, tree in self.trees.items():
            own = {name for name, _ in bound(tree)}
            for node in ast.walk(tree):
                if isinstance(node, ast.Name) and node.id not in own:
                    self.assertIn(node.id, BUILTINS, f"{path.name}:{node.lineno}")

    def test_words(self):
        """L12, L17, L27"""
        for where, node in self.nodes(ast.Name, ast.Attribute, ast.arg, ast.FunctionDef, ast.ClassDef):
            name = getattr(node, "id", "") or getattr(node, "attr", "") or getattr(node, "arg", "")
            self.assertIsNone(BARRED_WORDS.search(name or getattr(node, "name", "")), where)
        for path, text in self.texts.items():
            self.assertNotIn("_wall", text, path)
            self.assertNotIn("_WallAttr", text, path)
        for where, node in self.nodes(ast.Constant):
            if isinstance(node.value, str):
                self.assertNotIn("%", node.value, where)
                self.assertFalse(node.value.endswith(("._", ".__")), where)
                self.assertFalse(node.value.startswith("__") and node.value.endswith("__") and node.value, where)

    def test_calls(self):
        """L7, L22, L25"""
        for where, node in self.nodes(ast.Call):
            if named(node) in LISTED_ONLY and isinstance(node.func, ast.Name):
                self.assertFalse([part for part in node.args if isinstance(part, ast.GeneratorExp)], where)
            if isinstance(node.func, ast.Attribute):
                self.assertIn(node.func.attr, METHODS | self.own_methods, where)

    def test_views_and_sets(self):
        """L23, L24"""
        for where, node in self.nodes(ast.Assign, ast.Return):
            if isinstance(node.value, ast.Call):
                self.assertNotIn(named(node.value), VIEWS | {"map"}, where)
            if isinstance(node, ast.Return):
                self.assertNotIsInstance(node.value, (ast.Set, ast.SetComp, ast.GeneratorExp), where)
        for where, node in self.nodes(ast.For):
            self.assertNotIsInstance(node.iter, (ast.Set, ast.SetComp), where)
            self.assertFalse(isinstance(node.iter, ast.Call) and named(node.iter) == "set", where)

    def test_attributes(self):
        """L18, L26"""
        barred = set("""items keys values pop update append clear extend insert remove reverse setdefault sort args
            encode decode hex fromhex format mro open input law register elements""".split())
        for where, node in self.nodes(ast.Attribute):
            if isinstance(node.ctx, ast.Store):
                self.assertNotIn(node.attr, barred, where)
        for where, made in self.nodes(ast.ClassDef):
            kept = {node.attr for node in ast.walk(made)
                    if isinstance(node, ast.Attribute) and isinstance(node.ctx, ast.Store)}
            methods = [node.name for node in made.body if isinstance(node, ast.FunctionDef)]
            self.assertEqual(kept & set(methods), set(), where)


if __name__ == "__main__":
    unittest.main()
