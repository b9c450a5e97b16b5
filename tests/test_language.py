"""The rules of the Python subset that can be read off the files one by one."""

import ast
import builtins
import unittest
import warnings
from pathlib import Path

PACKAGE = Path(__file__).resolve().parent.parent / "seriessquares"
LIBRARY = {
    "heapq": {"heappush", "heappop", "heapify", "heapreplace", "heappushpop"},
    "math": {"gcd", "lcm", "isqrt", "comb", "perm", "factorial"},
    "itertools": {"product", "combinations", "permutations"},
}
BUILTINS = set("""
    len range enumerate zip min max sum abs sorted reversed int str bool list tuple dict set isinstance ord repr any all
    divmod iter next map super property staticmethod classmethod Exception ValueError TypeError KeyError IndexError
    LookupError ZeroDivisionError ArithmeticError OverflowError RuntimeError NotImplementedError AttributeError
    StopIteration NotImplemented
""".split())
METHODS_OF_BUILTINS = set("""
    append clear copy count endswith extend find get index insert isalnum isalpha isdigit islower isspace isupper items
    join keys ljust lower lstrip partition pop remove replace reverse rfind rjust rpartition rsplit rstrip setdefault
    split splitlines startswith strip update upper values zfill bit_length sort title capitalize swapcase casefold
    center expandtabs removeprefix removesuffix rindex isascii isdecimal isnumeric istitle isidentifier isprintable
""".split())
BARRED_NAMES = set("""
    register mro elements open input law version_info with_traceback add_note attrgetter breakpoint builtins compile
    copyright credits delattr dir eval exec exit gc getattr globals hasattr help id importlib license locals
    methodcaller os quit setattr type vars sys typing typing_extensions enum Enum IntEnum StrEnum Flag IntFlag Generic
    Protocol ABC ABCMeta namedtuple NamedTuple TypedDict TYPE_CHECKING abstractmethod dataclass overload contextmanager
""".split())
TAKE_NO_GENERATOR = {"any", "all", "min", "max", "sum", "sorted"}


def files():
    """The paths of the package's files."""
    return sorted(PACKAGE.glob("*.py"))


def trees():
    """The name and the tree of each file."""
    return [(path.name, ast.parse(path.read_text(encoding="utf-8"))) for path in files()]


def nodes(kind):
    """Each node of a kind in the package, with the place to name in a failure."""
    return [(node, f"{name}: {ast.unparse(node)[:80]}")
            for name, tree in trees() for node in ast.walk(tree) if isinstance(node, kind)]


def bound_in_functions(tree):
    """The parameters, the variables and the nested functions of a file."""
    found = set()
    for function in ast.walk(tree):
        if isinstance(function, (ast.FunctionDef, ast.Lambda)):
            for node in ast.walk(function):
                if isinstance(node, ast.arg):
                    found.add(node.arg)
                elif isinstance(node, ast.Name) and isinstance(node.ctx, ast.Store):
                    found.add(node.id)
                elif isinstance(node, ast.FunctionDef) and node is not function:
                    found.add(node.name)
                elif isinstance(node, ast.ExceptHandler) and node.name is not None:
                    found.add(node.name)
    return found


def imported_and_classes(tree):
    """The names of the imports and of the classes of a file."""
    found = {alias.name for node in tree.body if isinstance(node, ast.ImportFrom) for alias in node.names}
    return found | {node.name for node in tree.body if isinstance(node, ast.ClassDef)}


class LanguageTest(unittest.TestCase):

    def test_the_package_holds_only_its_files(self):
        names = [path.name for path in PACKAGE.iterdir() if path.name != "__pycache__"]
        self.assertEqual(sorted(names), [path.name for path in files()])
        self.assertIn("__init__.py", names)

    def test_sizes_and_characters(self):
        for path in files():
            text = path.read_text(encoding="utf-8")
            lines = text.split("\n")
            with self.subTest(path.name):
                self.assertLessEqual(len(lines) - 1, 399)
                self.assertLessEqual(max(len(line) for line in lines), 120)
                self.assertTrue(all(char == "\n" or " " <= char <= "~" for char in text))

    def test_python_warns_of_no_line(self):
        with warnings.catch_warnings():
            warnings.simplefilter("error")
            for path in files():
                compile(path.read_text(encoding="utf-8"), path.name, "exec")

    def test_functions_are_short(self):
        for path in files():
            for node in ast.walk(ast.parse(path.read_text(encoding="utf-8"))):
                if isinstance(node, ast.FunctionDef):
                    self.assertLessEqual(node.end_lineno - node.lineno + 1, 40, f"{path.name}: {node.name}")

    def test_imports(self):
        for path in files():
            tree = ast.parse(path.read_text(encoding="utf-8"))
            for node in ast.walk(tree):
                self.assertNotIsInstance(node, ast.Import, path.name)
                if isinstance(node, ast.ImportFrom):
                    self.assertIn(node, tree.body, path.name)
                    self.imported(path.name, node)

    def imported(self, name, node):
        """Fail unless the import is one from the package or of the library's few names."""
        self.assertEqual(node.level, 0, name)
        names = {alias.name for alias in node.names}
        if node.module in LIBRARY:
            self.assertLessEqual(names, LIBRARY[node.module], name)
        else:
            self.assertTrue(node.module.startswith("seriessquares."), name)
            self.assertNotIn("*", names, name)

    def test_no_cycle_of_imports(self):
        needs = {f"seriessquares.{name.removesuffix('.py')}": {
            node.module for node in tree.body if isinstance(node, ast.ImportFrom)} for name, tree in trees()}
        while needs:
            ready = [name for name in needs if not needs[name] & set(needs)]
            self.assertNotEqual(ready, [], f"a cycle among {sorted(needs)}")
            needs = {name: needs[name] for name in needs if name not in ready}

    def test_one_meaning_for_each_name(self):
        for name, tree in trees():
            bound = bound_in_functions(tree)
            self.assertEqual(bound & imported_and_classes(tree), set(), name)
            self.assertEqual((bound | imported_and_classes(tree)) & set(dir(builtins)), set(), name)
            self.assertEqual((bound | imported_and_classes(tree)) & BARRED_NAMES, set(), name)

    def test_only_known_names_are_read(self):
        for name, tree in trees():
            own = bound_in_functions(tree) | imported_and_classes(tree)
            for node in tree.body:
                own |= {node.name} if isinstance(node, ast.FunctionDef) else set()
                own |= {target.id for target in node.targets} if isinstance(node, ast.Assign) else set()
            for node in ast.walk(tree):
                if isinstance(node, ast.Name) and isinstance(node.ctx, ast.Load):
                    self.assertIn(node.id, own | BUILTINS, name)

    def test_only_known_methods_are_called(self):
        own = {node.name for _, tree in trees() for node in ast.walk(tree) if isinstance(node, ast.FunctionDef)}
        for node, place in nodes(ast.Call):
            if isinstance(node.func, ast.Attribute):
                self.assertIn(node.func.attr, own | METHODS_OF_BUILTINS, place)

    def test_no_name_is_a_method_and_an_attribute(self):
        methods = {method.name for node, _ in nodes(ast.ClassDef) for method in node.body
                   if isinstance(method, ast.FunctionDef) and not method.decorator_list}
        stored = {node.attr for node, _ in nodes(ast.Attribute) if isinstance(node.ctx, ast.Store)}
        self.assertEqual(methods & stored, set())

    def test_no_float_and_no_power_but_a_literal_one(self):
        for node, place in nodes(ast.Constant):
            self.assertNotIsInstance(node.value, (float, complex, bytes), place)
        for node, place in nodes(ast.BinOp):
            self.assertNotIsInstance(node.op, (ast.Div, ast.MatMult), place)
            if isinstance(node.op, ast.Pow):
                self.assertIsInstance(node.right, ast.Constant, place)

    def test_nothing_is_changed_in_place_by_a_sign(self):
        # A class with += bars it from everything that an operator runs; the package does without it.
        self.assertEqual([place for _, place in nodes(ast.AugAssign)], [])

    def test_generator_expressions(self):
        for node, place in nodes(ast.Call):
            if isinstance(node.func, ast.Name) and node.func.id in TAKE_NO_GENERATOR:
                self.assertFalse(any(isinstance(each, ast.GeneratorExp) for each in node.args), place)

    def test_what_is_iterated_at_once(self):
        for node, place in nodes((ast.Assign, ast.Return)):
            if isinstance(node.value, ast.Call) and isinstance(node.value.func, ast.Name):
                self.assertNotIn(node.value.func.id, ["zip", "enumerate", "reversed", "range", "map", "iter"], place)

    def test_generators_are_iterated_at_once(self):
        called = {"list", "tuple", "dict", "sorted", "sum", "min", "max", "any", "all", "enumerate", "zip"}
        generators = {function.name for function, _ in nodes(ast.FunctionDef)
                      if any(isinstance(each, (ast.Yield, ast.YieldFrom)) for each in ast.walk(function))}
        functions = [function.name for function, _ in nodes(ast.FunctionDef)]
        self.assertEqual([name for name in generators if functions.count(name) > 1], [])
        self.assertEqual(generators & METHODS_OF_BUILTINS, set())
        iterated = set()
        for node, _ in nodes((ast.For, ast.comprehension, ast.YieldFrom, ast.Call)):
            if isinstance(node, (ast.For, ast.comprehension)):
                iterated.add(ast.dump(node.iter))
            elif isinstance(node, ast.YieldFrom):
                iterated.add(ast.dump(node.value))
            elif isinstance(node.func, ast.Name) and node.func.id in called and node.args:
                iterated.add(ast.dump(node.args[0]))
        for node, place in nodes(ast.Call):
            name = node.func.attr if isinstance(node.func, ast.Attribute) else getattr(node.func, "id", "")
            if name in generators:
                self.assertIn(ast.dump(node), iterated, place)
                for argument in node.args:
                    self.assertIsInstance(argument, (ast.Name, ast.Attribute, ast.Constant), place)

    def test_is_stands_beside_none_true_and_false(self):
        for node, place in nodes(ast.Compare):
            if any(isinstance(sign, (ast.Is, ast.IsNot)) for sign in node.ops):
                self.assertIsInstance(node.comparators[0], ast.Constant, place)

    def test_statements(self):
        barred = (ast.Global, ast.AsyncFunctionDef, ast.AsyncFor, ast.AsyncWith, ast.Await, ast.Set, ast.SetComp)
        self.assertEqual([place for _, place in nodes(barred)], [])
        for node, place in nodes(ast.ExceptHandler):
            self.assertIsNotNone(node.type, place)
        for node, place in nodes(ast.FunctionDef):
            decorators = [ast.unparse(each) for each in node.decorator_list]
            self.assertLessEqual(set(decorators), {"staticmethod", "property", f"{node.name}.setter"}, place)
        self.assertEqual([place for node, place in nodes(ast.ClassDef) if node.decorator_list], [])

    def test_the_end_of_a_block_only_assigns_attributes(self):
        for node, place in nodes(ast.FunctionDef):
            if node.name == "__exit__":
                for row in node.body:
                    self.assertIsInstance(row, ast.Assign, place)
                    self.assertTrue(all(isinstance(each, ast.Attribute) for each in [*row.targets, row.value]), place)

    def test_operators_of_objects_stand_as_signs(self):
        called = [node.func.attr for node, _ in nodes(ast.Call) if isinstance(node.func, ast.Attribute)]
        self.assertEqual([name for name in called if name.startswith("__")], [])

    def test_strings(self):
        for node, place in nodes(ast.Constant):
            if isinstance(node.value, str):
                self.assertNotIn("%", node.value, place)

    def test_one_binding_for_each_name_of_a_file(self):
        for name, tree in trees():
            bound = [alias.name for node in tree.body if isinstance(node, ast.ImportFrom) for alias in node.names]
            for node in tree.body:
                if isinstance(node, (ast.FunctionDef, ast.ClassDef)):
                    bound.append(node.name)
                elif isinstance(node, ast.Assign):
                    bound.extend(target.id for target in node.targets)
            self.assertEqual(len(bound), len(set(bound)), name)


if __name__ == "__main__":
    unittest.main()
