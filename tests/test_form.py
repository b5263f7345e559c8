"""The form of the package's files: what of the rules of ../shared/LANGUAGE.md can be seen in a file."""

import ast
import builtins
import pathlib
import re
import unittest

PACKAGE = pathlib.Path(__file__).resolve().parent.parent / "daytellings"

ALLOWED_NODES = """
Module Import ImportFrom alias FunctionDef arguments arg Lambda ClassDef
Assign AugAssign If While For Return Break Continue Pass Raise Try ExceptHandler Expr
Constant Name Attribute Subscript Slice List Tuple Dict Set Call keyword JoinedStr FormattedValue
BinOp UnaryOp BoolOp Compare IfExp ListComp comprehension Load Store
Add Sub Mult FloorDiv Mod Pow LShift RShift BitOr BitXor BitAnd Invert UAdd USub Not And Or
Eq NotEq Lt LtE Gt GtE Is IsNot In NotIn
""".split()

ALLOWED_BUILTINS = """
len range enumerate zip min max sum abs sorted reversed int str bool list tuple dict set frozenset
isinstance ord repr any all divmod Exception ValueError TypeError KeyError IndexError LookupError
ZeroDivisionError ArithmeticError OverflowError RuntimeError NotImplementedError AttributeError StopIteration
""".split()

ALLOWED_METHODS = """
append clear copy count endswith extend find get index insert isalnum isalpha isdigit islower isspace isupper
items join keys ljust lower lstrip partition pop remove replace reverse rfind rjust rpartition rsplit rstrip
setdefault split splitlines startswith strip update upper values zfill bit_length
""".split()

ALLOWED_DUNDERS = ("__init__", "__eq__", "__repr__", "__str__", "__len__")

BANNED_WORDS = """
type typing typing_extensions enum Enum IntEnum StrEnum Flag IntFlag Generic Protocol ABC ABCMeta namedtuple
NamedTuple TypedDict TYPE_CHECKING abstractmethod
""".split()

BANNED_ANYWHERE = ("dataclass", "overload", "contextmanager")

BANNED_NAMES = """
register mro elements open input version_info with_traceback add_note attrgetter breakpoint builtins compile
copyright credits delattr dir eval exec exit gc getattr globals hasattr help id importlib license locals
methodcaller os quit setattr super type vars sys chr print format format_map
""".split()


def bound_names(tree):
    """All names that a file binds: functions, classes, parameters, targets."""
    names = []
    for node in ast.walk(tree):
        if isinstance(node, (ast.FunctionDef, ast.ClassDef)):
            names.append(node.name)
        elif isinstance(node, ast.arg):
            names.append(node.arg)
        elif isinstance(node, ast.Name) and isinstance(node.ctx, ast.Store):
            names.append(node.id)
    return names


def top_names(tree):
    names = [node.name for node in tree.body if isinstance(node, (ast.FunctionDef, ast.ClassDef))]
    return names + [node.targets[0].id for node in tree.body if isinstance(node, ast.Assign)]


WALKED = ("zip", "enumerate", "reversed", "range")
WALKING = ("list", "tuple", "dict", "sorted", "sum", "any", "all", "enumerate", "zip")
CHANGING = ("append", "clear", "extend", "insert", "pop", "remove", "reverse", "setdefault", "update")


def called_name(call):
    if isinstance(call.func, ast.Attribute):
        return call.func.attr
    return call.func.id if isinstance(call.func, ast.Name) else None


def is_walked(node, above):
    """Whether a call that gives something to walk stands where it is walked on the spot."""
    if isinstance(above, (ast.For, ast.comprehension)):
        return above.iter == node
    if not isinstance(above, ast.Call) or not above.args or above.args[0] != node:
        return False
    called = called_name(above)
    return called in WALKING or called == "join" or (called in ("min", "max") and len(above.args) == 1)


class Form(unittest.TestCase):
    @classmethod
    def setUpClass(cls):
        cls.paths = sorted(path for path in PACKAGE.iterdir() if path.name != "__pycache__")
        cls.texts = {path.name: path.read_text(encoding="utf-8") for path in cls.paths}
        cls.trees = {name: ast.parse(text) for name, text in cls.texts.items()}

    def nodes(self, *kinds):
        for name, tree in self.trees.items():
            for node in ast.walk(tree):
                if isinstance(node, kinds):
                    yield f"{name}:{getattr(node, 'lineno', 0)}", node

    def test_files(self):
        self.assertIn("__init__.py", self.texts)
        for path in self.paths:
            self.assertTrue(path.is_file(), path)
            self.assertRegex(path.name, r"^(__init__|[a-z][a-z0-9_]*)\.py$")
            self.assertNotIn(path.stem, dir(builtins))

    def test_signs_and_sizes(self):
        for name, text in self.texts.items():
            self.assertRegex(text, r"\A[ -~\n]*\n\Z", name)
            lines = text.split("\n")
            self.assertLessEqual(len(lines), 400, name)
            self.assertLessEqual(max(len(line) for line in lines), 120, name)
        for spot, node in self.nodes(ast.FunctionDef):
            self.assertLessEqual(node.end_lineno - node.lineno + 1, 40, spot)

    def test_words_that_stand_nowhere(self):
        for name, text in self.texts.items():
            words = re.findall(r"\w+", text)
            self.assertEqual([word for word in words if word in BANNED_WORDS], [], name)
            self.assertEqual([part for part in BANNED_ANYWHERE if part in text], [], name)

    def test_imports(self):
        drawn = {name: [] for name in self.trees}
        for name, tree in self.trees.items():
            for node in ast.walk(tree):
                self.assertNotIsInstance(node, ast.Import, name)
                if isinstance(node, ast.ImportFrom):
                    self.assertIn(node, tree.body, name)
                    self.assertRegex(node.module, r"^daytellings\.[a-z_0-9]+$", name)
                    source = node.module.split(".")[1] + ".py"
                    drawn[name].append(source)
                    for drawn_name in node.names:
                        self.assertIn(drawn_name.name, top_names(self.trees[source]), name)
        self.assert_no_circle(drawn)

    def assert_no_circle(self, drawn):
        self.assertEqual(drawn["__init__.py"], [])
        left = dict(drawn)
        while left:
            free = [name for name in left if not [source for source in left[name] if source in left]]
            self.assertTrue(free, f"these draw from one another: {sorted(left)}")
            left = {name: sources for name, sources in left.items() if name not in free}

    def test_top_of_a_file(self):
        for name, tree in self.trees.items():
            self.assertIsNotNone(ast.get_docstring(tree), name)
            kinds = (ast.ImportFrom, ast.FunctionDef, ast.ClassDef, ast.Assign)
            for node in tree.body[1:]:
                self.assertIsInstance(node, kinds, f"{name}:{node.lineno}")
            names = top_names(tree)
            self.assertEqual(len(names), len(set(names)), name)

    def test_kinds_of_statements_and_expressions(self):
        for spot, node in self.nodes(ast.AST):
            self.assertIn(type(node).__name__, ALLOWED_NODES, spot)
        for spot, node in self.nodes(ast.Assign):
            self.assertEqual(len(node.targets), 1, spot)
        for spot, node in self.nodes(ast.For, ast.While, ast.Try):
            self.assertFalse(not isinstance(node, ast.Try) and node.orelse, spot)
            self.assertFalse(isinstance(node, ast.Try) and node.finalbody, spot)
        for spot, node in self.nodes(ast.ListComp):
            self.assertEqual(len(node.generators), 1, spot)
            self.assertLessEqual(len(node.generators[0].ifs), 1, spot)

    def test_functions_and_classes(self):
        for spot, node in self.nodes(ast.FunctionDef, ast.ClassDef):
            self.assertEqual(node.decorator_list, [], spot)
        for spot, node in self.nodes(ast.arguments):
            self.assertFalse(node.vararg or node.kwarg or node.kwonlyargs or node.posonlyargs, spot)
        for spot, node in self.nodes(ast.ClassDef):
            self.assertLessEqual(len(node.bases), 1, spot)
            for part in node.body:
                self.assertIsInstance(part, (ast.FunctionDef, ast.Pass), spot)

    def test_own_methods_and_values(self):
        methods = [node.name for spot, found in self.nodes(ast.ClassDef) for node in found.body
                   if isinstance(node, ast.FunctionDef) and node.name not in ALLOWED_DUNDERS]
        values = [node.attr for spot, node in self.nodes(ast.Attribute) if isinstance(node.ctx, ast.Store)]
        self.assertEqual(set(methods) & set(values), set())
        kinds = (str, int, list, tuple, dict, set, frozenset, bytes, bytearray)
        pythons = {name for kind in kinds for name in dir(kind)}
        self.assertEqual((set(methods) | set(values)) & pythons, set())
        self.assertEqual((set(methods) | set(values)) & set(BANNED_NAMES), set())
        for spot, found in self.nodes(ast.ClassDef):
            names = [node.name for node in found.body if isinstance(node, ast.FunctionDef)]
            self.assertEqual(len(names), len(set(names)), spot)
            self.assertIn(found, [node for tree in self.trees.values() for node in tree.body], spot)

    def test_names(self):
        for name, tree in self.trees.items():
            for bound in bound_names(tree):
                if bound not in ALLOWED_DUNDERS:
                    self.assertRegex(bound, r"^[A-Za-z][A-Za-z0-9_]*$", name)
                    self.assertNotIn(bound, BANNED_NAMES, name)
        for spot, node in self.nodes(ast.arg, ast.Name):
            called = node.arg if isinstance(node, ast.arg) else node.id
            if called in dir(builtins):
                self.assertIn(called, ALLOWED_BUILTINS, spot)
                self.assertIsInstance(getattr(node, "ctx", None), ast.Load, spot)

    def test_methods(self):
        own = {bound for tree in self.trees.values() for bound in bound_names(tree)} | set(ALLOWED_DUNDERS)
        for spot, node in self.nodes(ast.Call):
            if isinstance(node.func, ast.Attribute):
                self.assertIn(node.func.attr, own | set(ALLOWED_METHODS), spot)

    def test_is_stands_beside_none_true_and_false(self):
        for spot, node in self.nodes(ast.Compare):
            if any(isinstance(sign, (ast.Is, ast.IsNot)) for sign in node.ops):
                self.assertIsInstance(node.comparators[0], ast.Constant, spot)
                self.assertIn(node.comparators[0].value, (None, True, False), spot)

    def test_locals_are_called_like_no_import_and_no_class(self):
        for name, tree in self.trees.items():
            taken = [part.asname or part.name for node in tree.body if isinstance(node, ast.ImportFrom)
                     for part in node.names]
            taken += [node.name for node in tree.body if isinstance(node, ast.ClassDef)]
            for node in ast.walk(tree):
                if isinstance(node, ast.arg):
                    self.assertNotIn(node.arg, taken, f"{name}:{node.lineno}")
                elif isinstance(node, ast.Name) and isinstance(node.ctx, ast.Store):
                    self.assertNotIn(node.id, taken, f"{name}:{node.lineno}")

    def test_lists_and_dicts_of_a_file_hold_none_themselves(self):
        for name, tree in self.trees.items():
            for node in tree.body:
                if isinstance(node, ast.Assign):
                    inner = [part for part in ast.walk(node.value) if isinstance(part, (ast.List, ast.Dict))]
                    self.assertLessEqual(len(inner), 1, f"{name}:{node.lineno}")

    def test_walked_at_once(self):
        for spot, node, above in self.calls_with_above():
            called = called_name(node)
            if called in WALKED or (called in ("items", "keys", "values") and isinstance(node.func, ast.Attribute)):
                self.assertTrue(is_walked(node, above), spot)

    def test_sets_are_neither_kept_nor_walked(self):
        for spot, node, above in self.calls_with_above():
            if called_name(node) in ("set", "frozenset"):
                within = isinstance(above, ast.Call) and called_name(above) in ("sorted", "len") and not above.keywords
                self.assertTrue(within or isinstance(above, (ast.Compare, ast.BinOp)), spot)
        self.assertEqual([spot for spot, node in self.nodes(ast.Set)], [])

    def calls_with_above(self):
        for spot, above in self.nodes(ast.AST):
            for node in ast.iter_child_nodes(above):
                if isinstance(node, ast.Call):
                    yield f"{spot}, {getattr(node, 'lineno', 0)}", node, above

    def test_keywords_of_calls(self):
        allowed = {"sorted": ("key", "reverse"), "min": ("key", "default"), "max": ("key", "default"),
                   "sum": ("start",), "enumerate": ("start",), "zip": ("strict",)}
        for spot, node in self.nodes(ast.Call):
            for keyword in node.keywords:
                if called_name(node) in ALLOWED_BUILTINS + ALLOWED_METHODS:
                    self.assertIn(keyword.arg, allowed.get(called_name(node), ()), spot)

    def test_own_functions_of_python_are_called_and_not_kept(self):
        classes = ("int", "str", "bool", "list", "tuple", "dict")
        for spot, above in self.nodes(ast.AST):
            for node in ast.iter_child_nodes(above):
                if isinstance(node, ast.Name) and node.id in ALLOWED_BUILTINS and node.id not in classes:
                    called = isinstance(above, ast.Call) and above.func == node
                    error = node.id.endswith(("Error", "Exception", "Iteration"))
                    self.assertTrue(called or error or isinstance(above, ast.keyword), f"{spot}: {node.id}")

    def test_raise_makes_its_error_on_the_spot(self):
        for spot, node in self.nodes(ast.Raise):
            self.assertIsInstance(node.exc, ast.Call, spot)
        for spot, node in self.nodes(ast.ExceptHandler):
            self.assertIsNotNone(node.type, spot)
            self.assertNotIn("Exception", ast.unparse(node.type), spot)
            self.assertNotIn("TypeError", ast.unparse(node.type), spot)

    def test_powers_have_a_written_exponent(self):
        for spot, node in self.nodes(ast.BinOp):
            if isinstance(node.op, ast.Pow):
                self.assertIsInstance(node.right, ast.Constant, spot)

    def test_what_a_loop_walks_is_not_changed_in_it(self):
        for spot, loop in self.nodes(ast.For):
            walked = {ast.unparse(part) for part in ast.walk(loop.iter) if isinstance(part, (ast.Name, ast.Attribute))}
            for node in (node for statement in loop.body for node in ast.walk(statement)):
                method = isinstance(node, ast.Call) and isinstance(node.func, ast.Attribute)
                if method and called_name(node) in CHANGING:
                    self.assertNotIn(ast.unparse(node.func.value), walked, spot)
                if isinstance(node, ast.Subscript) and isinstance(node.ctx, ast.Store):
                    self.assertNotIn(ast.unparse(node.value), walked, spot)

    def test_plain_values(self):
        for spot, node in self.nodes(ast.Constant):
            self.assertIsInstance(node.value, (int, str, type(None)), spot)
            self.assertNotIn("%", str(node.value), spot)


if __name__ == "__main__":
    unittest.main()
