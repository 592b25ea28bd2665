"""What can be checked simply of the rules for the package's files; the rule stands with each check."""

import ast
import builtins
import pathlib
import re
import unittest

PACKAGE = pathlib.Path(__file__).resolve().parent.parent / "pairskept"

# The names that the interface lists, each defined in its own file (L16).
INTERFACE = {
    "errors": [
        "PairError", "BadProgram", "BadDesign", "BadCore", "BadPlace", "BadRow", "BadName", "BadPlaces", "NotMade",
        "NotText", "InvalidText", "NotNow", "NothingToUndo",
    ],
    "programs": ["is_instruction"],
    "designs": ["is_design", "must_be_done", "all_designs"],
    "hands": ["events_behind", "has_ended", "told_by"],
    "outcomes": ["outcomes", "plain_outcomes", "row_for", "count_rows"],
    "compares": ["below", "alike", "shows", "tests", "normal", "normals", "first_test"],
    "fences": ["is_plain", "strange", "fenced", "fewest_fences"],
    "texts": ["write_program", "read_program", "write_design", "read_design"],
    "desks": ["Desk"],
}
# The methods that the interface lists for a class, each defined in the class itself (L5).
METHODS_OF = {("desks", "Desk"): ["run", "undo", "row"]}
LIBRARY = {
    "heapq": {"heappush", "heappop", "heapify", "heapreplace", "heappushpop"},
    "math": {"gcd", "lcm", "isqrt", "comb", "perm", "factorial"},
    "itertools": {
        "product", "combinations", "permutations", "chain", "accumulate", "pairwise", "islice", "zip_longest",
    },
    "collections": {"defaultdict"},
}
BUILTINS = set(
    "len range enumerate zip min max sum abs sorted reversed int str bool bytes list tuple dict set frozenset"
    " isinstance ord repr any all divmod pow getattr hasattr setattr iter next map property staticmethod classmethod"
    " super Exception ValueError TypeError KeyError IndexError LookupError ZeroDivisionError ArithmeticError"
    " OverflowError RuntimeError NotImplementedError AttributeError StopIteration NotImplemented".split()
)
METHODS = set(
    "append clear copy count endswith extend find get index insert isalnum isalpha isdigit islower isspace isupper"
    " items join keys ljust lower lstrip partition pop remove replace reverse rfind rjust rpartition rsplit rstrip"
    " setdefault split splitlines startswith strip update upper values zfill bit_length add discard sort"
    " isascii".split()
)
DUNDERS = {"__init__", "__eq__", "__repr__", "__str__", "__len__", "__iter__", "__call__"}
NEVER_NAMES = {"register", "mro", "elements", "open", "input", "law", "version_info", "with_traceback", "add_note"}
NEVER_WORDS = re.compile(
    r"\b(typing|typing_extensions|enum|Enum|IntEnum|StrEnum|Flag|IntFlag|Generic|Protocol|ABC|ABCMeta|namedtuple"
    r"|NamedTuple|TypedDict|TYPE_CHECKING|abstractmethod|_wall|_WallAttr)\b|dataclass|overload|contextmanager"
)
NEVER_NODES = (
    ast.Global, ast.AsyncFunctionDef, ast.AsyncFor, ast.AsyncWith, ast.Await, ast.AnnAssign, ast.Import, ast.Div,
)


def files():
    return sorted(path for path in PACKAGE.rglob("*") if "__pycache__" not in path.parts)


def texts():
    return [(path.name, path.read_text(encoding="utf-8")) for path in files() if path.suffix == ".py"]


def trees():
    return [(name, ast.parse(text)) for name, text in texts()]


def nodes(*kinds):
    return [(name, node) for name, tree in trees() for node in ast.walk(tree) if isinstance(node, kinds)]


def bound_names(tree):
    """Every name that a file gives to something, attributes left out."""
    for node in ast.walk(tree):
        if isinstance(node, (ast.FunctionDef, ast.ClassDef)):
            yield node.name
        elif isinstance(node, ast.arg):
            yield node.arg
        elif isinstance(node, ast.Name) and isinstance(node.ctx, ast.Store):
            yield node.id
        elif isinstance(node, ast.alias):
            yield node.name
        elif isinstance(node, ast.ExceptHandler) and node.name:
            yield node.name


class Files(unittest.TestCase):
    def test_l1_l14_only_plain_python_files(self):
        self.assertIn("__init__.py", [path.name for path in files()])
        for path in files():
            self.assertTrue(re.fullmatch(r"(__init__|__main__|[a-z][a-z0-9_]*)\.py", path.name), path)

    def test_l10_sizes(self):
        for name, text in texts():
            self.assertLessEqual(len(text.splitlines()), 399, name)
            for line in text.splitlines():
                self.assertLessEqual(len(line), 120, (name, line))
        for name, node in nodes(ast.FunctionDef):
            self.assertLessEqual(node.end_lineno - node.lineno + 1, 40, (name, node.name))

    def test_l14_characters(self):
        for name, text in texts():
            self.assertEqual([c for c in text if not (" " <= c <= "~" or c == "\n")], [], name)
            self.assertTrue(text.endswith("\n"), name)

    def test_l17_words(self):
        for name, text in texts():
            self.assertIsNone(NEVER_WORDS.search(text), name)

    def test_l27_strings(self):
        for name, node in nodes(ast.Constant):
            if isinstance(node.value, str):
                self.assertNotIn("%", node.value, name)
        for name, text in texts():
            self.assertIsNone(re.search(r"\\[^nt\\'\"]", text), name)


class Bindings(unittest.TestCase):
    def test_l2_l16_imports(self):
        modules = [path.stem for path in files()]
        for name, node in nodes(ast.ImportFrom):
            self.assertEqual(node.level, 0, name)
            self.assertTrue(all(alias.asname is None and alias.name != "*" for alias in node.names), name)
            if node.module in LIBRARY:
                self.assertLessEqual({alias.name for alias in node.names}, LIBRARY[node.module], name)
            else:
                package, _, module = node.module.partition(".")
                self.assertEqual(package, "pairskept", name)
                self.assertIn(module, modules, name)

    def test_l2_imports_stand_at_the_top(self):
        for name, tree in trees():
            body = [node for node in tree.body if not isinstance(node, ast.Expr)]
            kinds = [isinstance(node, ast.ImportFrom) for node in body]
            self.assertEqual(kinds, sorted(kinds, reverse=True), name)
            inside = [node for node in ast.walk(tree) if isinstance(node, ast.ImportFrom)]
            self.assertEqual(len(inside), sum(kinds), name)

    def test_l3_module_level(self):
        for name, tree in trees():
            for at, node in enumerate(tree.body):
                docstring = at == 0 and isinstance(node, ast.Expr) and isinstance(node.value, ast.Constant)
                plain = isinstance(node, (ast.ImportFrom, ast.FunctionDef, ast.ClassDef))
                value = isinstance(node, ast.Assign) and [isinstance(one, ast.Name) for one in node.targets] == [True]
                self.assertTrue(docstring or plain or value, (name, node.lineno))
                if value:
                    ast.literal_eval(node.value)

    def test_l8_l15_names_of_builtins(self):
        for name, tree in trees():
            for bound in set(bound_names(tree)) - DUNDERS:
                self.assertFalse(hasattr(builtins, bound), (name, bound))
        for name, node in nodes(ast.Name):
            if hasattr(builtins, node.id):
                self.assertIn(node.id, BUILTINS, name)

    def test_l12_l17_names(self):
        for name, tree in trees():
            for bound in bound_names(tree):
                plain = re.fullmatch(r"_?[A-Za-z][A-Za-z0-9_]*|_", bound)
                self.assertTrue(plain or bound in DUNDERS, (name, bound))
                self.assertNotIn(bound, NEVER_NAMES, name)
        for name, node in nodes(ast.Attribute):
            self.assertNotIn(node.attr, NEVER_NAMES, name)

    def test_l15_one_binding(self):
        for name, tree in trees():
            found = [alias.name for node in tree.body if isinstance(node, ast.ImportFrom) for alias in node.names]
            found += [node.name for node in tree.body if isinstance(node, (ast.FunctionDef, ast.ClassDef))]
            found += [node.targets[0].id for node in tree.body if isinstance(node, ast.Assign)]
            self.assertEqual(len(found), len(set(found)), name)

    def test_l16_interface(self):
        for module, names in INTERFACE.items():
            tree = dict(trees())[module + ".py"]
            defined = [node.name for node in tree.body if isinstance(node, (ast.FunctionDef, ast.ClassDef))]
            self.assertLessEqual(set(names), set(defined), module)

    def test_l5_methods_of_the_interface(self):
        for (module, name), methods in METHODS_OF.items():
            found = [node for node in dict(trees())[module + ".py"].body if isinstance(node, ast.ClassDef)]
            body = next(node.body for node in found if node.name == name)
            self.assertLessEqual(set(methods), {node.name for node in body if isinstance(node, ast.FunctionDef)}, name)


class Statements(unittest.TestCase):
    def test_l6_l7_l21_what_is_not_used(self):
        self.assertEqual([(name, node.lineno) for name, node in nodes(*NEVER_NODES) if hasattr(node, "lineno")], [])
        self.assertEqual([name for name, _ in nodes(ast.Div)], [])
        for name, node in nodes(ast.Constant):
            self.assertNotIsInstance(node.value, (float, complex), name)

    def test_l4_l5_decorators(self):
        for name, node in nodes(ast.FunctionDef, ast.ClassDef):
            for decorator in node.decorator_list:
                text = ast.unparse(decorator)
                self.assertRegex(text, r"^(property|staticmethod|classmethod|\w+\.setter)$", name)

    def test_l20_is(self):
        for name, node in nodes(ast.Compare):
            for sign, right in zip(node.ops, node.comparators):
                if isinstance(sign, (ast.Is, ast.IsNot)):
                    self.assertTrue(isinstance(right, ast.Constant) and right.value in (None, True, False), name)

    def test_l19_raise_creates_its_error(self):
        for name, node in nodes(ast.Raise):
            self.assertTrue(node.exc is None or isinstance(node.exc, ast.Call), (name, node.lineno))

    def test_l25_methods(self):
        own = {node.name for _, node in nodes(ast.FunctionDef)}
        for name, node in nodes(ast.Call):
            if isinstance(node.func, ast.Attribute):
                self.assertIn(node.func.attr, METHODS | own, (name, node.lineno))


if __name__ == "__main__":
    unittest.main()
