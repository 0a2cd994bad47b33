"""The subset of Python that the package keeps to, as far as a plain look at its code can tell.

Each test names the rules that it looks after; the rules have more to them than these tests see.
"""

import ast
import builtins
import pathlib
import re
import unittest

PACKAGE = pathlib.Path(__file__).resolve().parent.parent / "shadebarriers"
FILES = sorted(path for path in PACKAGE.rglob("*") if path.is_file() and path.parent.name != "__pycache__")

LIBRARY = {
    "heapq": {"heappush", "heappop", "heapify", "heapreplace", "heappushpop"},
    "math": {"gcd", "lcm", "isqrt", "comb", "perm", "factorial"},
    "itertools": {
        "product", "combinations", "permutations", "chain", "accumulate", "pairwise", "islice", "zip_longest",
    },
    "collections": {"defaultdict"},
    "__future__": {"annotations"},
}
BUILTINS = set("""
    len range enumerate zip min max sum abs sorted reversed int str bool bytes list tuple dict set isinstance ord
    repr any all divmod pow map iter next getattr hasattr setattr super property staticmethod classmethod object
    Exception ValueError TypeError KeyError IndexError LookupError ZeroDivisionError ArithmeticError OverflowError
    RuntimeError NotImplementedError AttributeError StopIteration NotImplemented
""".split())
METHODS = set("""
    append clear copy count endswith extend find get index insert isalnum isalpha isdigit islower isspace isupper
    items join keys ljust lower lstrip partition pop remove replace reverse rfind rjust rpartition rsplit rstrip
    setdefault split splitlines startswith strip update upper values zfill bit_length title capitalize swapcase
    casefold center expandtabs removeprefix removesuffix rindex isascii isdecimal isnumeric istitle isidentifier
    isprintable translate maketrans encode decode sort format add discard __init__
""".split())
SPECIAL_METHODS = set("""
    __init__ __eq__ __repr__ __str__ __len__ __enter__ __exit__ __call__ __iter__
""".split())
NOT_USED = set("""
    register mro elements open input law version_info with_traceback add_note attrgetter breakpoint builtins compile
    copyright credits delattr dir eval exec exit gc globals help id importlib license locals methodcaller os quit
    type vars typing enum Enum dataclass namedtuple sys
""".split())
NOT_ALLOWED = (
    ast.Global, ast.AsyncFunctionDef, ast.AsyncFor, ast.AsyncWith, ast.Await, ast.Import, ast.Div, ast.MatMult,
    ast.TypeAlias if hasattr(ast, "TypeAlias") else ast.Global,
)


def name_of_module(path):
    return "shadebarriers" if path.stem == "__init__" else "shadebarriers." + path.stem


def names_in(tree):
    """All names that a file binds or reads, with the node where each stands."""
    for node in ast.walk(tree):
        if isinstance(node, ast.Name):
            yield node.id, node
        elif isinstance(node, ast.Attribute):
            yield node.attr, node
        elif isinstance(node, ast.arg):
            yield node.arg, node
        elif isinstance(node, (ast.FunctionDef, ast.ClassDef)):
            yield node.name, node


def is_builtin(name):
    # A Python prompt, and with it doctest, keeps its last result among the builtins as _.
    return name != "_" and hasattr(builtins, name)


def is_plain(node):
    """Whether an expression at module level is a plain value or a collection of such."""
    if isinstance(node, (ast.List, ast.Tuple)):
        return all(is_plain(item) for item in node.elts)
    if isinstance(node, ast.Dict):
        return all(is_plain(item) for item in [*node.keys, *node.values])
    if isinstance(node, ast.UnaryOp):
        return isinstance(node.op, ast.USub) and isinstance(node.operand, ast.Constant)
    return isinstance(node, (ast.Constant, ast.Name))


class Language(unittest.TestCase):
    def setUp(self):
        self.texts = {path: path.read_text(encoding="utf-8") for path in FILES}
        self.trees = {path: ast.parse(text) for path, text in self.texts.items()}

    def nodes(self):
        for path, tree in self.trees.items():
            for node in ast.walk(tree):
                yield node, f"{path.name}:{getattr(node, 'lineno', 0)}"

    def test_files(self):
        """L1, L14: plain names of files, nothing else in the folder."""
        self.assertIn(PACKAGE / "__init__.py", FILES)
        for path in FILES:
            self.assertRegex(path.name, r"\A[a-z0-9_]+\.py\Z")
            self.assertNotIn(path.stem, dir(builtins))
            self.assertNotRegex(path.stem, r"\A(law|test)")

    def test_sizes(self):
        """L10: lines of functions, files and characters."""
        for path, text in self.texts.items():
            lines = text.split("\n")
            self.assertLessEqual(len(lines), 400, path.name)
            self.assertTrue(all(len(line) <= 120 for line in lines), path.name)
        for node, where in self.nodes():
            if isinstance(node, ast.FunctionDef):
                self.assertLessEqual(node.end_lineno - node.lineno + 1, 40, where)

    def test_characters(self):
        """L14, L27: characters from the blank to ~, and no percent signs or strange escapes in strings."""
        for path, text in self.texts.items():
            self.assertTrue(all(" " <= letter <= "~" or letter == "\n" for letter in text), path.name)
            self.assertNotRegex(text, r"\\[^nt\\\"']")
        for node, where in self.nodes():
            if isinstance(node, ast.Constant) and isinstance(node.value, str):
                self.assertNotIn("%", node.value, where)
                self.assertFalse(node.value.startswith("__") and node.value != "__main__", where)

    def test_imports(self):
        """L2, L16: imports at the top, from the file that defines the name."""
        for path, tree in self.trees.items():
            others = [node for node in tree.body if not isinstance(node, ast.ImportFrom)]
            first = next((node.lineno for node in others if not isinstance(node, ast.Expr)), 10**6)
            for node in ast.walk(tree):
                if isinstance(node, ast.ImportFrom):
                    self.assertEqual(node.level, 0, path.name)
                    self.assertLess(node.lineno, first, path.name)
                    self.check_import(node, path)

    def check_import(self, node, path):
        names = {alias.name for alias in node.names}
        if node.module in LIBRARY:
            self.assertLessEqual(names, LIBRARY[node.module], path.name)
            return
        [source] = [other for other in self.trees if name_of_module(other) == node.module]
        defined = set()
        for statement in self.trees[source].body:
            if isinstance(statement, (ast.FunctionDef, ast.ClassDef)):
                defined.add(statement.name)
            if isinstance(statement, ast.Assign):
                defined.add(statement.targets[0].id)
        self.assertLessEqual(names, defined, path.name)

    def test_no_import_rings(self):
        """L16: no two files import from each other, also not through others."""
        needs = {
            name_of_module(path): {node.module for node in ast.walk(tree) if isinstance(node, ast.ImportFrom)}
            for path, tree in self.trees.items()
        }
        while needs:
            free = [name for name, others in needs.items() if not others & set(needs)]
            self.assertTrue(free, f"a ring among {sorted(needs)}")
            needs = {name: others for name, others in needs.items() if name not in free}

    def test_module_level(self):
        """L3, L15: docstrings, imports, functions, classes and plain values, each name once."""
        for path, tree in self.trees.items():
            names = []
            for at, node in enumerate(tree.body):
                where = f"{path.name}:{node.lineno}"
                if isinstance(node, (ast.FunctionDef, ast.ClassDef)):
                    names.append(node.name)
                elif isinstance(node, ast.ImportFrom):
                    names += [alias.asname or alias.name for alias in node.names]
                elif isinstance(node, ast.Assign):
                    self.assertTrue(len(node.targets) == 1 and isinstance(node.targets[0], ast.Name), where)
                    self.assertTrue(is_plain(node.value), where)
                    names.append(node.targets[0].id)
                else:
                    self.assertTrue(at == 0 and isinstance(node, ast.Expr), where)
            self.assertEqual(len(names), len(set(names)), path.name)

    def test_statements(self):
        """L4, L6, L7: what does not occur at all."""
        for node, where in self.nodes():
            self.assertNotIsInstance(node, NOT_ALLOWED, where)
            if isinstance(node, ast.Constant):
                self.assertNotIsInstance(node.value, (float, complex), where)
            if isinstance(node, ast.ExceptHandler):
                self.assertIsNotNone(node.type, where)

    def test_decorators_and_bases(self):
        """L4, L5, L28: no decorators over functions and classes, and only some methods of Python's own."""
        for path, tree in self.trees.items():
            for node in tree.body:
                if isinstance(node, (ast.FunctionDef, ast.ClassDef)):
                    self.assertEqual(node.decorator_list, [], node.name)
        for node, where in self.nodes():
            if isinstance(node, ast.FunctionDef) and node.name.startswith("__"):
                self.assertIn(node.name, SPECIAL_METHODS, where)

    def test_names(self):
        """L12, L15, L17: plain names, none of a builtin, none of those that are barred."""
        for path, tree in self.trees.items():
            for name, node in names_in(tree):
                where = f"{path.name}:{node.lineno} {name}"
                if name not in SPECIAL_METHODS:
                    self.assertRegex(name, r"\A(_|_?[A-Za-z][A-Za-z0-9_]*)\Z", where)
                self.assertNotIn(name, NOT_USED, where)
                bound = isinstance(node, (ast.arg, ast.FunctionDef, ast.ClassDef))
                if bound or isinstance(getattr(node, "ctx", None), ast.Store) and isinstance(node, ast.Name):
                    self.assertFalse(is_builtin(name) and name not in SPECIAL_METHODS, where)

    def test_names_of_imports_and_classes(self):
        """L15: no parameter and no local variable has the name of a class or an import of its file."""
        for path, tree in self.trees.items():
            taken = {node.name for node in tree.body if isinstance(node, ast.ClassDef)}
            taken |= {alias.name for node in tree.body if isinstance(node, ast.ImportFrom) for alias in node.names}
            for name, node in names_in(tree):
                if isinstance(node, ast.arg) or isinstance(getattr(node, "ctx", None), ast.Store):
                    self.assertFalse(isinstance(node, (ast.arg, ast.Name)) and name in taken, f"{path.name} {name}")

    def test_lists_and_dicts_at_module_level(self):
        """L3, L15: they contain no other lists and dicts, and are only read."""
        readers = {"get", "items", "keys", "values", "index", "count"}
        for path, tree in self.trees.items():
            kept = {
                node.targets[0].id: node.value for node in tree.body
                if isinstance(node, ast.Assign) and isinstance(node.value, (ast.List, ast.Dict))
            }
            for value in kept.values():
                inner = [node for node in ast.walk(value) if isinstance(node, (ast.List, ast.Dict))]
                self.assertEqual(inner, [value], path.name)
            allowed = []
            for node in ast.walk(tree):
                if isinstance(node, ast.Subscript) and isinstance(node.ctx, ast.Load):
                    allowed.append(node.value)
                if isinstance(node, ast.Compare):
                    allowed += node.comparators
                if isinstance(node, (ast.For, ast.comprehension)):
                    allowed.append(node.iter)
                if isinstance(node, ast.Attribute) and node.attr in readers:
                    allowed.append(node.value)
            for node in ast.walk(tree):
                if isinstance(node, ast.Name) and node.id in kept and isinstance(node.ctx, ast.Load):
                    self.assertTrue(any(node is one for one in allowed), f"{path.name}:{node.lineno}")

    def test_methods_over_methods(self):
        """L5: of decorators only property, classmethod and staticmethod, each alone."""
        for node, where in self.nodes():
            if isinstance(node, ast.FunctionDef) and node.decorator_list:
                [decorator] = node.decorator_list
                self.assertIn(decorator.id, ("property", "classmethod", "staticmethod"), where)

    def test_builtins(self):
        """L8: only these builtins."""
        for node, where in self.nodes():
            if isinstance(node, ast.Name) and is_builtin(node.id):
                self.assertIn(node.id, BUILTINS, where)

    def test_methods(self):
        """L25: only these methods of builtin values, beside those of the package."""
        own = {node.name for node, _ in self.nodes() if isinstance(node, ast.FunctionDef)}
        for node, where in self.nodes():
            if isinstance(node, ast.Call) and isinstance(node.func, ast.Attribute):
                self.assertIn(node.func.attr, METHODS | own, where)

    def test_generators(self):
        """L23: the call of a generator is iterated at once, and no generator is used as a value."""
        takers = {"list", "tuple", "dict", "sorted", "sum", "min", "max", "any", "all", "enumerate", "zip"}
        generators = set()
        for node, _ in self.nodes():
            if isinstance(node, ast.FunctionDef) and any(isinstance(part, ast.Yield) for part in ast.walk(node)):
                generators.add(node.name)
        self.assertIn("walk", generators)
        at_once = []
        for node, _ in self.nodes():
            if isinstance(node, (ast.For, ast.comprehension)):
                at_once.append(node.iter)
            if isinstance(node, ast.Call) and isinstance(node.func, ast.Name) and node.func.id in takers:
                at_once += node.args
        called = [call.func for call in at_once if isinstance(call, ast.Call)]
        for node, where in self.nodes():
            if isinstance(node, ast.Name) and node.id in generators:
                self.assertTrue(any(node is name for name in called), where)

    def test_is(self):
        """L20: `is` beside None, True and False."""
        for node, where in self.nodes():
            if isinstance(node, ast.Compare) and any(isinstance(sign, (ast.Is, ast.IsNot)) for sign in node.ops):
                sides = [node.left, *node.comparators]
                self.assertTrue(any(isinstance(side, ast.Constant) and side.value in (None, True, False)
                                    for side in sides), where)

    def test_stars_in_calls(self):
        """L7: behind a star stand names, attributes, literals and collections of these."""
        plain = (ast.Name, ast.Attribute, ast.Constant, ast.List, ast.Tuple)
        for node, where in self.nodes():
            if isinstance(node, ast.Call):
                for part in node.args:
                    if isinstance(part, ast.Starred):
                        self.assertIsInstance(part.value, plain, where)

    def test_handlers(self):
        """L19: of Python's own errors only some are caught."""
        barred = re.compile(r"\A(Exception|TypeError|ArithmeticError|OverflowError|RuntimeError|AttributeError)\Z")
        for node, where in self.nodes():
            if isinstance(node, ast.ExceptHandler):
                for part in ast.walk(node.type):
                    if isinstance(part, ast.Name):
                        self.assertNotRegex(part.id, barred, where)


if __name__ == "__main__":
    unittest.main()
