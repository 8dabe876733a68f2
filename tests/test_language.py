"""The package keeps to the subset of Python in which it is written, as far as a short test can tell.

The numbers are those of the rules of that subset.
"""

import ast
import builtins
import pathlib
import re
import unittest

ROOT = pathlib.Path(__file__).resolve().parent.parent
PACKAGE = ROOT / "nearestword"

LIBRARY = {
    "heapq": {"heappush", "heappop", "heapify", "heapreplace", "heappushpop"},
    "math": {"gcd", "lcm", "isqrt", "comb", "perm", "factorial"},
    "itertools": {
        "product", "combinations", "permutations", "chain", "accumulate", "pairwise", "islice", "zip_longest",
    },
    "collections": {"defaultdict"},
}
BUILTINS = set(
    "len range enumerate zip min max sum abs sorted reversed int str bool list tuple dict set frozenset isinstance ord "
    "repr any all divmod pow iter next map getattr hasattr setattr super property staticmethod classmethod "
    "Exception ValueError TypeError KeyError IndexError LookupError ZeroDivisionError ArithmeticError OverflowError "
    "RuntimeError NotImplementedError AttributeError StopIteration NotImplemented".split()
)
METHODS = set(
    "append clear copy count endswith extend find get index insert isalnum isalpha isdigit islower isspace isupper "
    "items join keys ljust lower lstrip partition pop remove replace reverse rfind rjust rpartition rsplit rstrip "
    "setdefault split splitlines startswith strip update upper values zfill bit_length title capitalize swapcase "
    "casefold center expandtabs removeprefix removesuffix rindex isascii isdecimal isnumeric istitle isidentifier "
    "isprintable add discard sort".split()
)
UNUSED_NAMES = {"register", "mro", "elements", "open", "input", "law", "version_info", "with_traceback", "add_note"}
UNUSED_WORDS = set(
    "type typing typing_extensions enum Enum IntEnum StrEnum Flag IntFlag Generic Protocol ABC ABCMeta namedtuple "
    "NamedTuple TypedDict TYPE_CHECKING abstractmethod".split()
)
DOUBLE = {"__init__", "__enter__", "__exit__"}
STATEMENTS = (
    ast.Global, ast.Import, ast.AsyncFunctionDef, ast.AsyncFor, ast.AsyncWith, ast.TryStar, ast.Await,
)


def nodes_of(tree, kind):
    return [node for node in ast.walk(tree) if isinstance(node, kind)]


def functions_of(tree):
    return nodes_of(tree, ast.FunctionDef)


def docstrings_of(tree):
    holders = nodes_of(tree, (ast.Module, ast.ClassDef, ast.FunctionDef))
    first = [node.body[0] for node in holders if node.body]
    return [node.value for node in first if isinstance(node, ast.Expr) and isinstance(node.value, ast.Constant)]


def bound_names(tree):
    """The names of variables, parameters, functions and classes."""
    found = [node.id for node in nodes_of(tree, ast.Name) if not isinstance(node.ctx, ast.Load)]
    found += [node.arg for node in nodes_of(tree, ast.arg)]
    found += [node.name for node in nodes_of(tree, (ast.FunctionDef, ast.ClassDef))]
    found += [node.name for node in nodes_of(tree, (ast.MatchAs, ast.MatchStar)) if node.name]
    return found + [node.name for node in nodes_of(tree, ast.ExceptHandler) if node.name]


class LanguageTest(unittest.TestCase):
    @classmethod
    def setUpClass(cls):
        cls.texts = {path.name: path.read_text(encoding="utf-8") for path in sorted(PACKAGE.glob("*.py"))}
        cls.trees = {name: ast.parse(text) for name, text in cls.texts.items()}

    def test_l1_and_l14_files_and_characters(self):
        for path in PACKAGE.iterdir():
            if path.name != "__pycache__":
                self.assertRegex(path.name, r"\A[a-z0-9_]+\.py\Z")
        for name, text in self.texts.items():
            self.assertTrue(all(" " <= mark <= "~" or mark == "\n" for mark in text), name)

    def test_l2_and_l16_imports(self):
        uses = {}
        for name, tree in self.trees.items():
            uses[name] = set()
            for node in nodes_of(tree, ast.ImportFrom):
                self.assertIn(node, tree.body)
                self.assertEqual(node.level, 0)
                names = {alias.name for alias in node.names}
                self.assertTrue(all(alias.asname is None for alias in node.names))
                if node.module in LIBRARY:
                    self.assertLessEqual(names, LIBRARY[node.module])
                    continue
                package, _, module = node.module.partition(".")
                self.assertEqual(package, "nearestword")
                other = self.trees[module + ".py"]
                defined = {part.name for part in other.body if isinstance(part, (ast.FunctionDef, ast.ClassDef))}
                defined |= {part.targets[0].id for part in other.body if isinstance(part, ast.Assign)}
                self.assertLessEqual(names, defined)
                uses[name].add(module + ".py")
        while uses:
            ends = [name for name, used in uses.items() if not used & set(uses)]
            self.assertTrue(ends, "files import from each other")
            for name in ends:
                del uses[name]

    def test_l3_module_level(self):
        for name, tree in self.trees.items():
            for node in tree.body:
                if isinstance(node, ast.Assign):
                    self.assertIsInstance(node.targets[0], ast.Name)
                    self.assertEqual(len(node.targets), 1)
                    ast.literal_eval(node.value)
                elif isinstance(node, ast.Expr):
                    self.assertIn(node.value, docstrings_of(tree))
                else:
                    self.assertIsInstance(node, (ast.ImportFrom, ast.FunctionDef, ast.ClassDef))

    def test_l4_and_l5_functions_and_classes(self):
        for name, tree in self.trees.items():
            for node in functions_of(tree):
                decorators = [ast.unparse(decorator) for decorator in node.decorator_list]
                self.assertIn(decorators, ([], ["property"]), node.name)
                if node.name.startswith("__"):
                    self.assertIn(node.name, DOUBLE)
                self.assertIsNone(node.returns)
                self.assertTrue(all(part.annotation is None for part in node.args.args))
            for node in nodes_of(tree, ast.ClassDef):
                self.assertEqual((node.decorator_list, node.keywords), ([], []))
                names = [part.name for part in node.body if isinstance(part, ast.FunctionDef)]
                self.assertEqual(len(names), len(set(names)))

    def test_l6_and_l7_statements_and_values(self):
        for name, tree in self.trees.items():
            self.assertEqual(nodes_of(tree, STATEMENTS), [])
            self.assertEqual(nodes_of(tree, (ast.Div, ast.Pow)), [])
            for node in nodes_of(tree, ast.Constant):
                self.assertNotIsInstance(node.value, (float, complex, bytes))

    def test_l8_and_l15_names(self):
        for name, tree in self.trees.items():
            imported = {alias.name for node in nodes_of(tree, ast.ImportFrom) for alias in node.names}
            classes = {node.name for node in nodes_of(tree, ast.ClassDef)}
            level = [part for part in tree.body if isinstance(part, (ast.FunctionDef, ast.ClassDef))]
            methods = {id(part) for node in nodes_of(tree, ast.ClassDef) for part in node.body}
            bound = bound_names(tree)
            for word in bound:
                self.assertRegex(word, r"\A(_?[A-Za-z][A-Za-z0-9_]*|_|__init__|__enter__|__exit__)\Z")
                self.assertNotIn(word, imported)
            for node in functions_of(tree):
                if id(node) not in methods:
                    self.assertNotIn(node.name, dir(builtins))
            variables = [node.id for node in nodes_of(tree, ast.Name) if not isinstance(node.ctx, ast.Load)]
            variables += [node.arg for node in nodes_of(tree, ast.arg)]
            for word in variables:
                self.assertNotIn(word, dir(builtins))
                self.assertNotIn(word, classes)
            self.assertEqual(len(level), len({part.name for part in level}))
            for node in nodes_of(tree, ast.Name):
                if node.id not in bound and node.id not in imported:
                    self.assertIn(node.id, BUILTINS)

    def test_l10_sizes(self):
        for name, text in self.texts.items():
            lines = text.split("\n")
            self.assertLess(len(lines), 400, name)
            self.assertLessEqual(max(len(line) for line in lines), 120, name)
            for node in functions_of(self.trees[name]):
                self.assertLessEqual(node.end_lineno - node.lineno + 1, 40, node.name)

    def test_l17_names_and_words(self):
        for name, tree in self.trees.items():
            attributes = [node.attr for node in nodes_of(tree, ast.Attribute)]
            for word in bound_names(tree) + attributes:
                self.assertNotIn(word, UNUSED_NAMES | UNUSED_WORDS)
            docstrings = docstrings_of(tree)
            for node in nodes_of(tree, ast.Constant):
                if isinstance(node.value, str) and node not in docstrings:
                    self.assertFalse(set(re.findall(r"\w+", node.value)) & UNUSED_WORDS)

    def test_l18_methods_and_attributes(self):
        stored = {
            node.attr for tree in self.trees.values() for node in nodes_of(tree, ast.Attribute)
            if isinstance(node.ctx, ast.Store)
        }
        methods = {
            part.name for tree in self.trees.values() for node in nodes_of(tree, ast.ClassDef)
            for part in node.body if isinstance(part, ast.FunctionDef)
        }
        self.assertEqual(stored & METHODS, set())
        for name, tree in self.trees.items():
            for node in nodes_of(tree, ast.ClassDef):
                own = {part.attr for part in nodes_of(node, ast.Attribute) if isinstance(part.ctx, ast.Store)}
                self.assertEqual(own & {part.name for part in functions_of(node)}, set())
            for node in nodes_of(tree, ast.Call):
                if isinstance(node.func, ast.Attribute):
                    self.assertIn(node.func.attr, methods | METHODS)
            for node in nodes_of(tree, ast.Attribute):
                self.assertIn(node.attr, methods | METHODS | stored)

    def test_l19_and_l20_errors_and_is(self):
        for name, tree in self.trees.items():
            for node in nodes_of(tree, ast.Raise):
                self.assertTrue(node.exc is None or isinstance(node.exc, ast.Call) and isinstance(node.exc.func, ast.Name))
            for node in nodes_of(tree, ast.Compare):
                for sign, side in zip(node.ops, node.comparators):
                    if isinstance(sign, (ast.Is, ast.IsNot)):
                        self.assertIsInstance(side, ast.Constant)
                        self.assertIn(side.value, (None, True, False))

    def test_l27_strings(self):
        for name, tree in self.trees.items():
            for node in nodes_of(tree, ast.Constant):
                if isinstance(node.value, str):
                    self.assertNotIn("%", node.value)
                    self.assertFalse(node.value.endswith(("._", ".__")))
            self.assertEqual(re.findall(r"\\[^nt\\'\"]", self.texts[name]), [])
