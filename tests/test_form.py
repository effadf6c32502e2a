"""Checks of the form of the package that a script can make: the main rules of its Python subset.

The numbers are those of the rules. The checks are stricter than the rules in places, and they do not
replace reading them.
"""

import ast
import pathlib
import re
import unittest

FOLDER = pathlib.Path(__file__).resolve().parent.parent / "mergelevels"
NAME = "mergelevels"

BUILTINS = """
    len range enumerate zip min max sum abs sorted reversed int str bool list tuple dict set isinstance ord repr
    any all divmod iter next Exception ValueError TypeError KeyError IndexError LookupError ZeroDivisionError
    ArithmeticError OverflowError RuntimeError NotImplementedError NotImplemented super property staticmethod
    classmethod
""".split()
DUNDERS = """
    __init__ __eq__ __repr__ __str__ __len__ __enter__ __exit__ __call__ __iter__ __contains__ __slots__
""".split()
WORDS = """
    type typing typing_extensions enum Enum IntEnum StrEnum Flag IntFlag Generic Protocol ABC ABCMeta namedtuple
    NamedTuple TypedDict TYPE_CHECKING abstractmethod
""".split()
BARRED = """
    register mro elements open input version_info with_traceback add_note attrgetter breakpoint builtins compile
    copyright credits delattr dir eval exec exit gc getattr globals hasattr help id importlib license locals
    methodcaller os quit setattr vars sys format format_map hash map round filter object float
""".split()
METHODS = """
    append clear copy count endswith extend find get index insert isalnum isalpha isdigit islower isspace isupper
    items join keys ljust lower lstrip partition pop remove replace reverse rfind rjust rpartition rsplit rstrip
    setdefault split splitlines startswith strip update upper values zfill bit_length
    title capitalize swapcase casefold center expandtabs removeprefix removesuffix rindex isascii isdecimal isnumeric
    istitle isidentifier isprintable
""".split()
MODIFYING = "append clear extend insert pop remove reverse setdefault update sort add discard".split()
# What these call changes nothing (L5), and they themselves assign nothing (L28).
STILL = ("__contains__", "__eq__", "__str__", "__repr__", "__len__")
# Once a class has __eq__ or an operator, these take lists only (L5, L7).
TAKE_LISTS = ("any", "all", "min", "max", "sum", "sorted")
# What these return is iterated at once (L23): by a loop, a comprehension, or one of the builtins below.
ONE_PASS = ("zip", "enumerate", "reversed", "range", "items", "keys", "values")
TAKE_PASSES = ("list", "tuple", "dict", "sorted", "sum", "any", "all", "enumerate", "zip", "min", "max")
SETS = (ast.Set, ast.SetComp)
BARRED_NODES = (
    ast.Global, ast.AsyncFunctionDef, ast.AsyncFor, ast.AsyncWith, ast.Await, ast.Div, ast.MatMult, ast.Import,
    ast.AnnAssign,
)


def files():
    """The paths of all files of the package."""
    return sorted(path for path in FOLDER.rglob("*") if "__pycache__" not in path.parts)


def trees():
    """(file name, tree) for each file."""
    return [(path.name, ast.parse(path.read_text())) for path in files()]


def nodes(kind):
    """(place, node) for all nodes of a kind in all files."""
    return [
        (f"{name}:{getattr(node, 'lineno', 0)}", node)
        for name, tree in trees() for node in ast.walk(tree) if isinstance(node, kind)
    ]


def called_name(node):
    """The name of the function or method that a node calls, None if it is no call."""
    if not isinstance(node, ast.Call):
        return None
    return node.func.id if isinstance(node.func, ast.Name) else getattr(node.func, "attr", None)


def parts_of(kinds, *fields):
    """The nodes that stand in these fields of the nodes of these kinds."""
    found = []
    for place, node in nodes(kinds):
        for field in fields:
            part = getattr(node, field)
            found += part if isinstance(part, list) else [part]
    return [shown(part) for part in found]


def functions():
    """name -> nodes of the functions and methods with this name."""
    found = {}
    for place, node in nodes(ast.FunctionDef):
        found.setdefault(node.name, []).append(node)
    return found


def decorators(node):
    """The texts of the decorators of a function."""
    return [ast.unparse(part) for part in node.decorator_list]


def called_from(starts):
    """The nodes of the functions and methods of the package that are reached from the given ones, these included."""
    own = functions()
    reached = list(starts)
    for node in reached:
        for part in ast.walk(node):
            names = [called_name(part), getattr(part, "attr", None)]
            reached += [other for name in names for other in own.get(name, []) if other not in reached]
    return reached


def own_errors():
    """The names of the error classes of the package."""
    tree = dict(trees())["errors.py"]
    return [node.name for node in tree.body if isinstance(node, ast.ClassDef)]


def shown(node):
    """A text by which a node is found again in another tree of the same file."""
    return ast.dump(node, include_attributes=True)


def defined(tree):
    """The names that a module defines itself, not by imports."""
    names = []
    for node in tree.body:
        if isinstance(node, (ast.FunctionDef, ast.ClassDef)):
            names.append(node.name)
        elif isinstance(node, ast.Assign):
            names += [target.id for target in node.targets]
    return names


def imported(tree):
    """The nodes of the imports of a module."""
    return [node for node in ast.walk(tree) if isinstance(node, ast.ImportFrom)]


class TestForm(unittest.TestCase):
    def test_files(self):
        """L1, L10, L14."""
        self.assertIn("__init__.py", [path.name for path in files()])
        for path in files():
            self.assertRegex(path.name, r"^[a-z0-9_]+\.py$")
            text = path.read_bytes().decode("ascii")
            self.assertRegex(text, r"\A[\n -~]*\Z")
            lines = text.split("\n")
            self.assertLessEqual(len(lines), 400, path.name)
            self.assertLessEqual(max(len(line) for line in lines), 120, path.name)

    def test_functions(self):
        """L4, L5, L10."""
        for place, node in nodes(ast.FunctionDef):
            self.assertLessEqual(node.end_lineno - node.lineno + 1, 40, place)
            self.assertFalse(node.args.posonlyargs, place)

    def test_words(self):
        """L17, L27."""
        for path in files():
            text = path.read_text()
            found = set(re.findall(r"[A-Za-z0-9_]+", text)) & set(WORDS)
            self.assertFalse(found, path.name)
            self.assertNotRegex(text, "dataclass|overload|contextmanager|%")
            self.assertFalse(set(re.findall(r"\\(.)", text)) - set("nt\\\"'"), path.name)

    def test_nodes(self):
        """L6, L7, L21."""
        self.assertEqual([place for place, node in nodes(BARRED_NODES)], [])
        for place, node in nodes(ast.Constant):
            self.assertNotIsInstance(node.value, (float, complex), place)

    def test_powers(self):
        """L27."""
        for place, node in nodes(ast.BinOp):
            if isinstance(node.op, ast.Pow):
                self.assertIn(ast.unparse(node.right), [str(power) for power in range(65)], place)

    def test_module_level(self):
        """L3, L15."""
        for name, tree in trees():
            allowed = (ast.FunctionDef, ast.ClassDef, ast.Assign, ast.ImportFrom)
            self.assertIsNotNone(ast.get_docstring(tree), name)
            for node in tree.body[1:]:
                self.assertIsInstance(node, allowed, name)
            bound = defined(tree) + [alias.asname or alias.name for node in imported(tree) for alias in node.names]
            self.assertEqual(len(bound), len(set(bound)), name)

    def test_imports(self):
        """L2, L16."""
        homes = {f"{NAME}.{name[:-3]}": tree for name, tree in trees()}
        above = {}
        for home, tree in homes.items():
            above[home] = [node.module for node in imported(tree)]
            for node in imported(tree):
                self.assertEqual(node.level, 0, home)
                for alias in node.names:
                    self.assertIn(alias.name, defined(homes[node.module]), home)
        done = []
        while len(done) < len(homes):
            ready = [home for home in homes if home not in done and set(above[home]) <= set(done)]
            self.assertTrue(ready, "files import each other")
            done += ready

    def test_names(self):
        """L8, L12, L15, L17."""
        for name, tree in trees():
            taken = {alias.name for node in imported(tree) for alias in node.names}
            taken |= {node.name for node in tree.body if isinstance(node, ast.ClassDef)}
            known = set(defined(tree)) | taken | set(BUILTINS)
            bound = [node.arg for node in ast.walk(tree) if isinstance(node, ast.arg)]
            loads = []
            for node in ast.walk(tree):
                if isinstance(node, ast.Name):
                    (loads if isinstance(node.ctx, ast.Load) else bound).append(node.id)
                if isinstance(node, (ast.FunctionDef, ast.ClassDef)) and node.name not in DUNDERS:
                    self.assertRegex(node.name, "^[A-Za-z]", name)
                    self.assertNotIn(node.name, BARRED, name)
                if isinstance(node, ast.ExceptHandler) and node.name:
                    bound.append(node.name)
                if isinstance(node, ast.FunctionDef):
                    known.add(node.name)
            for word in bound:
                self.assertRegex(word, "^[A-Za-z]", name)
                self.assertNotIn(word, BARRED + BUILTINS, name)
                self.assertNotIn(word, taken, name)
            self.assertEqual(set(loads) - set(bound) - known, set(), name)

    def test_methods(self):
        """L18, L25."""
        own = {node.name for place, node in nodes(ast.FunctionDef)}
        stored = {node.attr for place, node in nodes(ast.Attribute) if isinstance(node.ctx, ast.Store)}
        values = {
            target.id for place, node in nodes(ast.ClassDef) for part in node.body
            if isinstance(part, ast.Assign) for target in part.targets
        }
        self.assertFalse(values & (own | stored))
        for place, node in nodes(ast.Attribute):
            self.assertIn(node.attr, own | stored | values | set(METHODS), place)
        for place, node in nodes(ast.ClassDef):
            names = [part.name for part in node.body if isinstance(part, ast.FunctionDef)]
            methods = set(names)
            self.assertEqual(len(names), len(methods), place)
            self.assertFalse(methods & stored, place)
            self.assertFalse({word for word in methods if word.startswith("_")} - set(DUNDERS), place)

    def test_decorators(self):
        """L4, L5."""
        for place, node in nodes(ast.FunctionDef):
            self.assertIn(decorators(node), ([], ["property"], ["staticmethod"], ["classmethod"]), place)
            if decorators(node) == ["property"]:
                self.assertEqual(ast.unparse(node.args), "self", place)
                self.assertNotIn(node.name, METHODS, place)
        for place, node in nodes(ast.ClassDef):
            self.assertEqual(node.decorator_list, [], place)
        properties = {node.name for place, node in nodes(ast.FunctionDef) if "property" in decorators(node)}
        plain = {node.name for place, node in nodes(ast.FunctionDef) if "property" not in decorators(node)}
        self.assertFalse(properties & plain)

    def test_what_changes_nothing(self):
        """L5: operators, properties, and all that they call; L28."""
        starts = [
            node for place, node in nodes(ast.FunctionDef) if node.name in STILL or "property" in decorators(node)
        ]
        self.assertGreater(len(starts), 6)
        for node in called_from(starts):
            lists = [
                part.targets[0].id for part in ast.walk(node)
                if isinstance(part, ast.Assign) and isinstance(part.value, ast.List)
            ]
            for part in ast.walk(node):
                self.assertNotIsInstance(part, (ast.AugAssign, ast.Delete), node.name)
                if isinstance(part, (ast.Attribute, ast.Subscript)):
                    self.assertIsInstance(part.ctx, ast.Load, node.name)
                if isinstance(part, ast.Call) and getattr(part.func, "attr", None) in MODIFYING:
                    self.assertIn(ast.unparse(part.func.value), lists, node.name)
        for node in starts:
            self.assertIsInstance(node.body[-1], ast.Return, node.name)
            if node.name in STILL:
                self.assertFalse([part for part in ast.walk(node) if isinstance(part, ast.Assign)], node.name)

    def test_errors(self):
        """L19: only own errors are caught, and each one is created where it is raised."""
        own = own_errors()
        for place, node in nodes(ast.ExceptHandler):
            caught = node.type.elts if isinstance(node.type, ast.Tuple) else [node.type]
            for part in caught:
                self.assertIn(ast.unparse(part), own, place)
        for place, node in nodes(ast.Raise):
            self.assertIn(called_name(node.exc), own, place)
            self.assertIsInstance(node.cause, (ast.Name, type(None)), place)

    def test_finally(self):
        """L6, for the statements that occur."""
        simple = (ast.Name, ast.Attribute, ast.Constant, ast.Tuple, ast.List, ast.expr_context)
        for place, node in nodes(ast.Try):
            for part in node.finalbody:
                if isinstance(part, ast.Assign):
                    self.assertEqual(len(part.targets), 1, place)
                    inner = [part.targets[0], part.value]
                else:
                    self.assertEqual(called_name(part.value), "append", place)
                    inner = part.value.args
                for value in [value for tree in inner for value in ast.walk(tree)]:
                    self.assertIsInstance(value, simple, place)

    def test_classes(self):
        """L18: a class is called, a base class, caught, raised, asked for in isinstance, or asked for a value."""
        names = {node.name for place, node in nodes(ast.ClassDef)}
        places = parts_of(ast.ClassDef, "bases") + parts_of(ast.Call, "func") + parts_of(ast.Attribute, "value")
        for place, node in nodes(ast.ExceptHandler):
            places += [shown(part) for part in ast.walk(node.type)]
        for place, node in nodes(ast.Call):
            if called_name(node) == "isinstance":
                places += [shown(part) for part in ast.walk(node.args[1])]
        for place, node in nodes(ast.Name):
            if node.id in names:
                self.assertIn(shown(node), places, place)

    def test_generators_of_classes(self):
        """L23: no generator is a property, a static or class method or a double-underscore method."""
        for place, node in nodes(ast.FunctionDef):
            if [part for part in ast.walk(node) if isinstance(part, (ast.Yield, ast.YieldFrom))]:
                self.assertEqual(decorators(node), [], place)
                self.assertFalse(node.name.startswith("_"), place)

    def test_lists_instead_of_generators(self):
        """L5, L7."""
        for place, node in nodes(ast.Call):
            if isinstance(node.func, ast.Name) and node.func.id in TAKE_LISTS:
                for argument in node.args:
                    self.assertNotIsInstance(argument, ast.GeneratorExp, place)

    def test_iterated_at_once(self):
        """L23, for builtins and for the generators of the package."""
        generators = {
            node.name for place, node in nodes(ast.FunctionDef)
            if any(isinstance(part, (ast.Yield, ast.YieldFrom)) for part in ast.walk(node))
        }
        places = parts_of((ast.For, ast.comprehension), "iter") + parts_of(ast.YieldFrom, "value")
        for place, node in nodes(ast.Call):
            if called_name(node) in TAKE_PASSES:
                places += [shown(part) for part in node.args]
        for place, node in nodes(ast.Call):
            if called_name(node) in ONE_PASS or called_name(node) in generators:
                self.assertIn(shown(node), places, place)
        for place, node in nodes(ast.FunctionDef):
            if node.name in generators:
                returns = [part for part in ast.walk(node) if isinstance(part, ast.Return)]
                self.assertTrue(all(part.value is None for part in returns), place)
                self.assertFalse([part for part in ast.walk(node) if isinstance(part, (ast.Try, ast.With))], place)

    def test_sets(self):
        """L24, without stored sets."""
        places = []
        for place, node in nodes(ast.Call):
            if called_name(node) in ("sorted", "len"):
                places += [shown(part) for part in node.args]
        places += parts_of(ast.Compare, "comparators")
        for place, node in nodes(SETS + (ast.Call,)):
            if isinstance(node, SETS) or called_name(node) in ("set", "frozenset"):
                self.assertIn(shown(node), places, place)

    def test_is(self):
        """L20."""
        for place, node in nodes(ast.Compare):
            for sign, right in zip(node.ops, node.comparators):
                if isinstance(sign, (ast.Is, ast.IsNot)):
                    self.assertIn(ast.dump(right), [ast.dump(ast.Constant(x)) for x in (None, True, False)], place)


if __name__ == "__main__":
    unittest.main()
