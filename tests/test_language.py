"""Rules of the Python subset that can be seen in the text of the package: a guard, not the whole of them."""

import ast
import unittest
from pathlib import Path

import unevenroads

FOLDER = Path(unevenroads.__file__).parent

NODES = (
    "Module Import ImportFrom alias FunctionDef ClassDef arguments arg Expr Constant Name Load Store Assign AugAssign "
    "Tuple List Dict Set Attribute Subscript Slice Call keyword Return If While For Break Continue Pass Raise Try "
    "ExceptHandler BoolOp And Or UnaryOp Not USub BinOp Add Sub Mult FloorDiv Mod Pow BitAnd BitOr BitXor Compare Eq "
    "NotEq Lt LtE Gt GtE Is IsNot In NotIn IfExp ListComp DictComp SetComp comprehension JoinedStr FormattedValue "
    "Starred Lambda Delete Assert LShift RShift"
).split()

BUILTINS = (
    "len range enumerate zip min max sum abs sorted reversed int str bool list tuple dict set isinstance any all "
    "divmod ValueError iter property"
).split()

METHODS = (
    "append clear copy count endswith extend find get index insert isdigit items join keys partition pop remove "
    "replace setdefault split startswith strip update values"
).split()

# What may be imported beside the modules of the package.
LIBRARY = {"math": ["comb", "gcd"]}

# No name begins with these.
BEGINNINGS = ("__", "_wall", "_pe_", "_dcw_", "_enum_", "_cm_", "_twin_re_", "_lay_", "_law_", "_stub_", "_sre",
              "_cold", "_outside", "_record", "_written_out", "_member_names", "_tuplegetter")

BARRED = ("mro elements open input law register type typing enum Enum namedtuple dataclass overload contextmanager "
          "exec eval compile globals locals vars dir id help exit quit hash next map round filter print").split()

# Parameters and local variables that hold a function.
FUNCTION_VALUES = ["work", "action", "question"]

# The double-underscore names that may stand in the package.
DOUBLE = ["__init__", "__len__", "__getitem__", "__iter__", "__eq__", "__class__", "__name__"]


def sources():
    """The name, the text and the tree of each file of the package."""
    found = []
    for path in sorted(FOLDER.glob("*.py")):
        text = path.read_text(encoding="ascii")
        found.append((path.name, text, ast.parse(text)))
    return found


class LanguageTest(unittest.TestCase):

    def test_the_folder_holds_plain_files_alone(self):
        names = [path.name for path in FOLDER.iterdir() if path.name != "__pycache__"]
        self.assertIn("__init__.py", names)
        for name in names:
            self.assertRegex(name, r"^[a-z0-9_]+\.py$")

    def test_sizes_and_signs(self):
        for name, text, tree in sources():
            lines = text.split("\n")
            self.assertLessEqual(len(lines), 399, name)
            for line in lines:
                self.assertLessEqual(len(line), 120, (name, line))
                self.assertTrue(all([" " <= sign <= "~" for sign in line]), (name, line))
            for node in ast.walk(tree):
                if isinstance(node, ast.FunctionDef):
                    self.assertLessEqual(node.end_lineno - node.lineno + 1, 40, (name, node.name))

    def test_statements_and_expressions(self):
        for name, _, tree in sources():
            for node in ast.walk(tree):
                self.assertIn(node.__class__.__name__, NODES, (name, getattr(node, "lineno", 0)))
                if isinstance(node, ast.Constant):
                    self.assertNotIsInstance(node.value, (float, complex), name)
                    if isinstance(node.value, str):
                        self.assertNotIn("%", node.value, name)
                if isinstance(node, ast.FunctionDef) and node not in self.properties(tree):
                    self.assertEqual(node.decorator_list, [], (name, node.name))

    def properties(self, tree):
        """The methods under property alone: with no other parameter and with just one statement, a return."""
        found = []
        for owner in ast.walk(tree):
            for node in owner.body if isinstance(owner, ast.ClassDef) else []:
                if isinstance(node, ast.FunctionDef) and "property" in [ast.unparse(by) for by in node.decorator_list]:
                    self.assertEqual(len(node.decorator_list), 1)
                    self.assertEqual([word.arg for word in node.args.args], ["self"])
                    self.assertEqual([item.__class__ for item in node.body], [ast.Expr, ast.Return])
                    found.append(node)
        return found

    def test_properties(self):
        """No property has the name of a method or of an attribute that is assigned, and none has a setter."""
        names = [node.name for _, _, tree in sources() for node in self.properties(tree)]
        self.assertEqual(sorted(names), sorted("shelf version log made standing sums unlike version looks".split()))
        methods, attributes = self.own_names()
        for name in names:
            self.assertNotIn(name, attributes)
            self.assertEqual(methods.count(name), names.count(name))

    def test_benches_are_iterated_over_and_compared_in_the_one_way(self):
        """With __getitem__, __iter__ and __len__ much is barred that no other rule of these tests sees."""
        bodies = {}
        for name, text, tree in sources():
            for word in ("(type)", "Meta", "metaclass=", "reversed(", ".sort(", "yield", "import product", "lambda",
                         ".add("):
                self.assertNotIn(word, text, name)
            for node in ast.walk(tree):
                if isinstance(node, ast.FunctionDef) and node.name in DOUBLE[1:]:
                    self.assertEqual((name, len(node.body), node.body[0].__class__), ("benches.py", 1, ast.Return))
                    bodies[node.name] = ast.unparse(node.body[0])
                if isinstance(node, ast.Call) and isinstance(node.func, ast.Name) and node.func.id == "iter":
                    self.assertEqual(name, "benches.py")
        self.assertEqual(bodies, {
            "__len__": "return len(self._table)", "__getitem__": "return entry_of(self._table, at)",
            "__iter__": "return iter(self._table)",
            "__eq__": "return isinstance(other, Bench) and self._table == other._table"})

    def test_handlers_catch_own_errors_alone(self):
        for name, _, tree in sources():
            for node in ast.walk(tree):
                if isinstance(node, ast.ExceptHandler):
                    self.assertIn(node.type.id, ("UnevenError", "Unfit"), name)

    def test_module_level(self):
        for name, _, tree in sources():
            bound = []
            for node in tree.body:
                allowed = (ast.Expr, ast.ImportFrom, ast.FunctionDef, ast.ClassDef, ast.Assign)
                self.assertIsInstance(node, allowed, name)
                if isinstance(node, ast.ImportFrom):
                    bound.extend([alias.name for alias in node.names])
                elif isinstance(node, ast.Assign):
                    self.assertEqual(len(node.targets), 1, name)
                    bound.append(node.targets[0].id)
                elif not isinstance(node, ast.Expr):
                    bound.append(node.name)
            self.assertEqual(len(bound), len(set(bound)), name)
            self.check_inner_names(name, tree, bound)

    def check_inner_names(self, name, tree, bound):
        for node in ast.walk(tree):
            inner = None
            if isinstance(node, ast.arg):
                inner = node.arg
            elif isinstance(node, ast.Name) and isinstance(node.ctx, ast.Store) and node not in self.targets(tree):
                inner = node.id
            if inner is not None:
                self.assertNotIn(inner, bound, name)
                self.assertNotIn(inner, BUILTINS + BARRED, (name, node.lineno))

    def targets(self, tree):
        return [node.targets[0] for node in tree.body if isinstance(node, ast.Assign)]

    def test_imports(self):
        table = {}
        for name, _, tree in sources():
            table[name[:-3]] = []
            for node in ast.walk(tree):
                if isinstance(node, ast.ImportFrom):
                    self.assertEqual([alias.asname for alias in node.names], [None] * len(node.names), name)
                    if node.module in LIBRARY:
                        self.check_library(name, tree, node)
                        continue
                    self.assertEqual((node.level, node.module.split(".")[0]), (0, "unevenroads"), name)
                    table[name[:-3]].append(node.module.split(".")[1])
        while table:
            free = [name for name in table if not [used for used in table[name] if used in table]]
            self.assertNotEqual(free, [], "these files import from each other in a round: " + str(sorted(table)))
            table = {name: table[name] for name in table if name not in free}

    def check_library(self, name, tree, imported):
        """What is imported is called by its bare name only, with all arguments by position."""
        words = [alias.name for alias in imported.names]
        for word in words:
            self.assertIn(word, LIBRARY[imported.module], name)
        calls = [node for node in ast.walk(tree) if isinstance(node, ast.Call) and isinstance(node.func, ast.Name)
                 and node.func.id in words]
        self.assertEqual([node.keywords for node in calls], [[]] * len(calls), name)
        named = [node for node in ast.walk(tree) if isinstance(node, ast.Name) and node.id in words]
        self.assertEqual(len(named), len(calls), name)

    def test_classes(self):
        methods, attributes = self.own_names()
        self.assertEqual([word for word in methods if word in attributes], [])
        for name, _, tree in sources():
            for node in ast.walk(tree):
                if isinstance(node, ast.Attribute):
                    self.assertIn(node.attr, METHODS + methods + attributes + DOUBLE[-2:], (name, node.lineno))
                    if isinstance(node.ctx, ast.Store):
                        self.assertEqual(node.value.id, "self", name)
                        self.assertNotIn(node.attr, DOUBLE, name)

    def own_names(self):
        """The names of the methods, and of the attributes, of all classes of the package."""
        methods, attributes = [], []
        for _, _, tree in sources():
            for node in ast.walk(tree):
                if isinstance(node, ast.ClassDef):
                    methods.extend([item.name for item in node.body if isinstance(item, ast.FunctionDef)])
                if isinstance(node, ast.Attribute) and isinstance(node.ctx, ast.Store):
                    attributes.append(node.attr)
        return methods, attributes

    def test_beginnings_of_names(self):
        for name, text, tree in sources():
            self.assertNotIn("_wall", text, name)
            for node in ast.walk(tree):
                for field in ("id", "attr", "name", "arg"):
                    word = getattr(node, field, None)
                    if isinstance(word, str) and word not in DOUBLE:
                        self.assertFalse(word.startswith(BEGINNINGS), (name, word))

    def test_sets_stand_beside_in_or_directly_in_calls(self):
        for name, _, tree in sources():
            inner = [part for node in ast.walk(tree) if isinstance(node, (ast.Compare, ast.Call))
                     for part in ast.iter_child_nodes(node)]
            for node in ast.walk(tree):
                made = isinstance(node, ast.Call) and isinstance(node.func, ast.Name) and node.func.id == "set"
                if made or isinstance(node, (ast.Set, ast.SetComp)):
                    self.assertIn(node, inner, (name, node.lineno))

    def test_calls(self):
        methods, _ = self.own_names()
        for name, _, tree in sources():
            known = BUILTINS + FUNCTION_VALUES
            for node in ast.walk(tree):
                if isinstance(node, (ast.FunctionDef, ast.ClassDef)):
                    known.append(node.name)
                elif isinstance(node, ast.ImportFrom):
                    known.extend([alias.name for alias in node.names])
            for node in ast.walk(tree):
                if isinstance(node, ast.Call) and isinstance(node.func, ast.Name):
                    self.assertIn(node.func.id, known, (name, node.lineno))
                elif isinstance(node, ast.Call):
                    self.assertIn(node.func.attr, METHODS + methods, (name, node.lineno))

    def test_words_that_are_not_used(self):
        for name, _, tree in sources():
            for node in ast.walk(tree):
                word = getattr(node, "id", getattr(node, "attr", getattr(node, "name", None)))
                self.assertNotIn(word, BARRED, (name, getattr(node, "lineno", 0)))
