"""The plainest of the rules to which the files of the package keep; the numbers are those of LANGUAGE.md."""

import ast
import re
import unittest
from pathlib import Path

FOLDER = Path(__file__).resolve().parent.parent / "wovenplaces"
FILES = sorted(FOLDER.rglob("*.py"))
TREES = {path.stem: ast.parse(path.read_text()) for path in FILES}
DUNDERS = """
init eq repr str len enter exit call iter lt le gt ge ne add sub mul floordiv mod pow and or xor lshift rshift neg pos
invert abs bool contains getitem setitem radd rsub rmul rfloordiv rmod rand ror rxor rlshift rrshift iadd isub imul
ifloordiv imod ipow iand ior ixor ilshift irshift
""".split()
BUILTINS = """
len range enumerate zip min max sum abs sorted reversed int str bool bytes list tuple dict set frozenset isinstance ord
repr any all divmod iter next super property staticmethod classmethod Exception ValueError KeyError IndexError
LookupError TypeError ZeroDivisionError ArithmeticError OverflowError RuntimeError NotImplementedError AttributeError
StopIteration NotImplemented
""".split()
WORDS = """
type typing typing_extensions enum Enum IntEnum StrEnum Flag IntFlag Generic Protocol ABC ABCMeta namedtuple NamedTuple
TypedDict TYPE_CHECKING abstractmethod
""".split()
METHODS = """
append clear copy count endswith extend find get index insert isalnum isalpha isdigit islower isspace isupper items join
keys ljust lower lstrip partition pop remove replace reverse rfind rjust rpartition rsplit rstrip setdefault split
splitlines startswith strip update upper values zfill bit_length title capitalize swapcase casefold center expandtabs
removeprefix removesuffix rindex isascii isdecimal isnumeric istitle isidentifier isprintable translate sort add discard
""".split()
NO_NAMES = """
register mro elements open input law version_info with_traceback add_note attrgetter breakpoint builtins compile copyright
credits delattr dir eval exec exit gc getattr globals hasattr help id importlib license locals methodcaller os quit
setattr super type vars sys hash map filter round format print object complex float bytearray memoryview slice
""".split()
KEYWORDS = [("sorted", "key"), ("sorted", "reverse"), ("min", "key"), ("max", "key"), ("min", "default"),
            ("max", "default"), ("sum", "start"), ("enumerate", "start"), ("zip", "strict")]
ON_THE_SPOT = ("zip", "enumerate", "reversed", "range", "items", "keys", "values")
TAKES_THEM = ("list", "tuple", "dict", "sorted", "sum", "any", "all", "enumerate", "zip", "min", "max", "join", "len",
              "reversed")
NOT_ALLOWED = (ast.Global, ast.AsyncFunctionDef, ast.AsyncFor, ast.AsyncWith, ast.Await, ast.TryStar, ast.Div,
               ast.Import, ast.MatMult)
TAKES_A_LIST = ("sum", "min", "max", "sorted", "any", "all")


def found(kind, tree):
    return [node for node in ast.walk(tree) if isinstance(node, kind)]


def imports_of(name):
    return [node for node in TREES[name].body if isinstance(node, ast.ImportFrom)]


def defined_in(name):
    kept = {node.name for node in TREES[name].body if isinstance(node, (ast.FunctionDef, ast.ClassDef))}
    return kept | {node.targets[0].id for node in TREES[name].body if isinstance(node, ast.Assign)}


def is_called(node, *names):
    return isinstance(node, ast.Call) and isinstance(node.func, ast.Name) and node.func.id in names


def called_name(node):
    return node.func.attr if isinstance(node.func, ast.Attribute) else getattr(node.func, "id", None)


def is_written(node, kind):
    return isinstance(node, ast.Constant) and isinstance(node.value, kind)


def is_shown(node):
    """Whether this is a text, an f-string, str(..), repr(..) or the join of a written text."""
    joined = isinstance(node, ast.Call) and isinstance(node.func, ast.Attribute) and node.func.attr == "join"
    return (is_written(node, str) or isinstance(node, ast.JoinedStr) or is_called(node, "str", "repr")
            or joined and is_written(node.func.value, str))


def is_counted(node):
    return is_written(node, int) or is_called(node, "len")


class Language(unittest.TestCase):
    def test_files(self):
        for path in FOLDER.rglob("*"):
            if "__pycache__" not in path.parts:
                self.assertRegex(path.name, r"^[a-z0-9_]+\.py$", "L1, L14")

    def test_lines_and_characters(self):
        for path in FILES:
            lines = path.read_text().split("\n")
            self.assertLessEqual(len(lines), 400, f"L10 {path.name}")
            for at, line in enumerate(lines, 1):
                with self.subTest(f"{path.name} {at}"):
                    self.assertRegex(line, "^[ -~]{0,120}$", "L10, L14")
                    self.assertFalse(re.search(r"\b(" + "|".join(WORDS) + r")\b", line), "L17")
                    self.assertFalse(re.search("dataclass|overload|contextmanager", line), "L17")

    def test_module_level(self):
        for name, tree in TREES.items():
            for node in tree.body:
                with self.subTest(f"{name} {node.lineno}"):
                    told = isinstance(node, ast.Expr) and isinstance(node.value, ast.Constant)
                    kept = isinstance(node, ast.Assign) and [type(one) for one in node.targets] == [ast.Name]
                    self.assertTrue(told or kept or isinstance(
                        node, (ast.ImportFrom, ast.FunctionDef, ast.ClassDef)), "L3")

    def test_imports(self):
        for name in TREES:
            for node in imports_of(name):
                with self.subTest(f"{name} {node.lineno}"):
                    self.assertTrue(node.level == 0 and node.module.startswith("wovenplaces."), "L2")
                    self.assertLessEqual({one.name for one in node.names}, defined_in(node.module[12:]), "L16")
            self.assertEqual(len(imports_of(name)), len(found(ast.ImportFrom, TREES[name])), "L2")

    def test_no_circles_of_imports(self):
        left = {name: {node.module[12:] for node in imports_of(name)} for name in TREES}
        while left:
            done = [name for name, needed in left.items() if not needed & set(left)]
            self.assertTrue(done, f"L16 {sorted(left)}")
            left = {name: needed for name, needed in left.items() if name not in done}

    def test_statements_and_values(self):
        for name, tree in TREES.items():
            for node in ast.walk(tree):
                with self.subTest(f"{name} {getattr(node, 'lineno', 0)}"):
                    self.assertNotIsInstance(node, NOT_ALLOWED, "L2, L6, L7")
                    if isinstance(node, ast.Constant):
                        self.assertNotIsInstance(node.value, (float, complex), "L7")
                        self.assertNotIn("%", str(node.value), "L27")
                    if isinstance(node, ast.ExceptHandler):
                        self.assertIsNotNone(node.type, "L6")
                    if isinstance(node, ast.Compare):
                        same = isinstance(node.ops[0], (ast.Is, ast.IsNot))
                        self.assertTrue(not same or isinstance(node.comparators[0], ast.Constant), "L20")

    def test_functions(self):
        for name, tree in TREES.items():
            for node in found(ast.FunctionDef, tree):
                with self.subTest(f"{name} {node.name}"):
                    self.assertLessEqual(node.end_lineno - node.lineno + 1, 40, "L10")
                    self.assertEqual(node.args.posonlyargs, [], "L4")
                    for one in node.decorator_list:
                        self.assertRegex(ast.unparse(one), r"^(property|staticmethod|classmethod|\w+\.setter)$", "L4")
                    if node.name.startswith("_"):
                        self.assertIn(node.name.strip("_"), DUNDERS, "L5")

    def test_lists_where_the_rules_ask_for_them(self):
        for name, tree in TREES.items():
            for node in found(ast.Call, tree):
                if isinstance(node.func, ast.Name) and node.func.id in TAKES_A_LIST:
                    self.assertNotIsInstance(node.args[0], ast.GeneratorExp, f"L5, L7 {name} {node.lineno}")

    def test_names(self):
        for name, tree in TREES.items():
            bound = {node.id for node in found(ast.Name, tree) if isinstance(node.ctx, ast.Store)}
            bound |= {node.arg for node in found(ast.arg, tree)} | defined_in(name)
            bound |= {node.name for node in found(ast.FunctionDef, tree)}
            taken = {one.name for node in imports_of(name) for one in node.names}
            used = {node.id for node in found(ast.Name, tree) if isinstance(node.ctx, ast.Load)}
            self.assertLessEqual(used - bound - taken, set(BUILTINS), f"L8 {name}")
            self.assertEqual(taken - used, set(), f"{name} imports what it does not use")
            self.assertEqual(bound & set(NO_NAMES), set(), f"L15, L17 {name}")
            locals_of = bound - defined_in(name)
            self.assertEqual(locals_of & (set(BUILTINS) | taken), set(), f"L8, L15 {name}")
            for one in locals_of | {node.attr for node in found(ast.Attribute, tree)}:
                self.assertRegex(one, "^([a-zA-Z][a-zA-Z0-9_]*|__[a-z]+__)$", f"L12 {name}")

    def test_what_the_methods_with_two_underscores_return(self):
        forms = {"__str__": is_shown, "__repr__": is_shown, "__len__": is_counted}
        for name, tree in TREES.items():
            for node in found(ast.FunctionDef, tree):
                for returned in found(ast.Return, node) if node.name in forms else []:
                    self.assertTrue(forms[node.name](returned.value), f"L28 {name} {returned.lineno}")

    def test_attributes_and_methods_are_own_ones_or_those_of_the_rules(self):
        own, assigned = set(), set()
        for tree in TREES.values():
            for made in found(ast.ClassDef, tree):
                own |= {node.name for node in made.body if isinstance(node, ast.FunctionDef)}
            assigned |= {node.attr for node in found(ast.Attribute, tree) if isinstance(node.ctx, ast.Store)}
        for name, tree in TREES.items():
            called = {id(node.func) for node in found(ast.Call, tree)}
            for node in found(ast.Attribute, tree):
                allowed = own | set(METHODS) if id(node) in called else own | assigned
                self.assertIn(node.attr, allowed, f"L18, L25 {name} {node.lineno}")

    def test_what_is_iterated_on_the_spot(self):
        for name, tree in TREES.items():
            spots = {id(node.iter) for node in found((ast.For, ast.comprehension), tree)}
            for node in found(ast.Call, tree):
                if called_name(node) in TAKES_THEM:
                    spots |= {id(one) for one in node.args}
            spots |= {id(one) for node in found(ast.Compare, tree) for one in node.comparators}
            for node in found(ast.Call, tree):
                if called_name(node) in ON_THE_SPOT:
                    self.assertIn(id(node), spots, f"L23 {name} {node.lineno}")

    def test_lists_and_dicts_at_module_level_are_only_read(self):
        for name, tree in TREES.items():
            kept = {node.targets[0].id for node in tree.body
                    if isinstance(node, ast.Assign) and isinstance(node.value, (ast.Dict, ast.List))}
            parents = {id(inner): node for node in ast.walk(tree) for inner in ast.iter_child_nodes(node)}
            for node in found(ast.Name, tree):
                if node.id in kept and isinstance(node.ctx, ast.Load):
                    parent = parents[id(node)]
                    self.assertTrue(
                        isinstance(parent, ast.Subscript) and parent.value is node and isinstance(parent.ctx, ast.Load)
                        or isinstance(parent, (ast.Compare, ast.For, ast.comprehension)) or is_called(parent, "len", "sorted")
                        or isinstance(parent, ast.Attribute) and parent.attr in ("get", "items", "keys", "values"),
                        f"L15 {name} {node.lineno}")
            for other in TREES:
                taken = {one.name for node in imports_of(other) if node.module == f"wovenplaces.{name}" for one in node.names}
                self.assertEqual(taken & kept, set(), f"L15 {other}")

    def test_what_an_exit_of_a_with_statement_does(self):
        for name, tree in TREES.items():
            for node in found(ast.FunctionDef, tree):
                if node.name == "__exit__":
                    self.assertEqual([one.arg for one in node.args.args], ["self", "kind", "value", "trace"], "L6")
                    inner = [one for each in node.body for one in ast.walk(each)]
                    self.assertFalse([one for one in inner if isinstance(one, (ast.Call, ast.BinOp, ast.Subscript, ast.For,
                                                                              ast.While, ast.Tuple, ast.Raise))], "L6")
                    for test in [one for one in inner if isinstance(one, ast.If)]:
                        self.assertEqual(ast.unparse(test.test), "kind is not None", "L6")

    def test_operators_change_nothing(self):
        """All functions that operators and properties may call add to nothing but numbers that are written."""
        reached, waiting = set(), [node for tree in TREES.values() for node in found(ast.FunctionDef, tree)
                                   if node.decorator_list or node.name.startswith("__") and node.name != "__init__"]
        named = {node.name: node for tree in TREES.values() for node in tree.body if isinstance(node, ast.FunctionDef)}
        classes = {node.name: node for tree in TREES.values() for node in tree.body if isinstance(node, ast.ClassDef)}
        while waiting:
            node = waiting.pop()
            if node.name in ("__enter__", "__exit__", "read"):
                continue
            for one in found(ast.AugAssign, node):
                self.assertTrue(is_written(one.value, int) and isinstance(one.target, ast.Name), f"L5 {node.name}")
            for one in found((ast.Global, ast.Nonlocal, ast.Delete), node):
                self.fail(f"L5 {node.name} {one.lineno}")
            for call in found(ast.Call, node):
                follower = named.get(called_name(call))
                if called_name(call) == "Places":
                    follower = [one for one in classes["Places"].body if getattr(one, "name", "") == "__init__"][0]
                if follower is not None and follower.name not in reached:
                    reached.add(follower.name)
                    waiting.append(follower)
        self.assertLessEqual({"bits_below", "tiled", "least_width", "primes_of"}, reached)

    def test_stars_in_calls(self):
        for name, tree in TREES.items():
            for node in found(ast.Call, tree):
                for one in node.args:
                    if isinstance(one, ast.Starred):
                        self.assertIsInstance(one.value, (ast.Name, ast.Attribute, ast.List, ast.Tuple),
                                              f"L7 {name} {node.lineno}")
                if isinstance(node.func, ast.Name) and node.func.id in BUILTINS:
                    for one in node.keywords:
                        self.assertIn((node.func.id, one.arg), KEYWORDS, f"L22 {name} {node.lineno}")
                if isinstance(node.func, ast.Attribute) and node.func.attr in METHODS:
                    self.assertEqual(node.keywords, [], f"L22 {name} {node.lineno}")

    def test_powers_and_lambdas(self):
        for name, tree in TREES.items():
            for node in found(ast.BinOp, tree):
                if isinstance(node.op, ast.Pow):
                    self.assertTrue(is_written(node.right, int), f"L27 {name} {node.lineno}")
            lines = [node.lineno for node in found(ast.Lambda, tree)]
            self.assertEqual(len(lines), len(set(lines)), f"L13 {name}")

    def test_names_of_properties(self):
        made = [node for tree in TREES.values() for node in found(ast.ClassDef, tree)]
        told = [(node.name, bool(node.decorator_list) and ast.unparse(node.decorator_list[0]) == "property")
                for one in made for node in one.body if isinstance(node, ast.FunctionDef)]
        properties, methods = {one for one, is_one in told if is_one}, {one for one, is_one in told if not is_one}
        self.assertEqual(properties & (methods | set(METHODS)), set(), "L5")

    def test_generators_have_names_of_their_own(self):
        named = [node for tree in TREES.values() for node in found(ast.FunctionDef, tree)]
        for node in named:
            if found((ast.Yield, ast.YieldFrom), node):
                self.assertEqual([other.name for other in named].count(node.name), 1, f"L23 {node.name}")

    def test_classes_with_an_index_say_that_they_are_not_iterated_over(self):
        for name, tree in TREES.items():
            for made in found(ast.ClassDef, tree):
                methods = {node.name for node in made.body if isinstance(node, ast.FunctionDef)}
                self.assertTrue("__getitem__" not in methods or "__iter__" in methods, f"L5 {name} {made.name}")
                self.assertNotIn("__hash__", methods, "L5")

    def test_no_name_is_a_method_and_an_attribute(self):
        methods, attributes = set(), set()
        for tree in TREES.values():
            for made in found(ast.ClassDef, tree):
                methods |= {node.name for node in made.body if isinstance(node, ast.FunctionDef)}
            attributes |= {node.attr for node in found(ast.Attribute, tree) if isinstance(node.ctx, ast.Store)}
        setters = {node.value.id for tree in TREES.values() for node in found(ast.Attribute, tree)
                   if node.attr == "setter" and isinstance(node.value, ast.Name)}
        self.assertEqual(methods & attributes - setters, set(), "L18")


if __name__ == "__main__":
    unittest.main()
