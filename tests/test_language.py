"""Rules of the Python subset that can be seen in the text of the package: a guard, not the whole of them."""

import ast
import unittest
from pathlib import Path

import unevenroads

FOLDER = Path(unevenroads.__file__).parent

NODES = (
    "Module Import ImportFrom alias FunctionDef ClassDef arguments arg Expr Constant Name Load Store Assign AugAssign "
    "Tuple List Dict Set Attribute Subscript Slice Call keyword Return If While For Break Continue Pass Raise Try "
    "ExceptHandler BoolOp And Or UnaryOp Not USub BinOp Add Sub Mult FloorDiv Mod Pow BitAnd BitOr BitXor Compare Eq "
    "NotEq Lt LtE Gt GtE Is IsNot In NotIn IfExp ListComp DictComp SetComp comprehension JoinedStr FormattedValue "
    "Starred Lambda Delete Assert LShift RShift"
).split()

BUILTINS = (
    "len range enumerate zip min max sum abs sorted reversed int str bool list tuple dict set isinstance any all "
    "divmod ValueError iter property"
).split()

METHODS = (
    "append clear copy count endswith extend find get index insert isdigit items join keys partition pop remove "
    "replace setdefault split startswith strip update values"
).split()

# Methods that change what they are called of, and calls that go over the items of what they are handed, as it is then.
CHANGING = "add append clear discard extend insert pop remove reverse setdefault sort update".split()
OVER = "enumerate filter iter map reversed zip".split()
VIEWS = "items keys values".split()

# What may be imported beside the modules of the package.
LIBRARY = {"math": ["comb", "gcd"]}

# No name begins with these.
BEGINNINGS = ("__", "_wall", "_pe_", "_dcw_", "_enum_", "_cm_", "_twin_re_", "_lay_", "_law_", "_stub_", "_sre",
              "_cold", "_outside", "_record", "_written_out", "_member_names", "_tuplegetter")

BARRED = ("mro elements open input law register type typing enum Enum namedtuple dataclass overload contextmanager "
          "exec eval compile globals locals vars dir id help exit quit hash next map round filter print").split()

# Parameters and local variables that hold a function.
FUNCTION_VALUES = ["work", "action", "question"]

# The double-underscore names that may stand in the package.
DOUBLE = ["__init__", "__len__", "__getitem__", "__iter__", "__eq__", "__class__", "__name__"]


def sources():
    """The name, the text and the tree of each file of the package."""
    found = []
    for path in sorted(FOLDER.glob("*.py")):
        text = path.read_text(encoding="ascii")
        found.append((path.name, text, ast.parse(text)))
    return found


def key_of(node):
    """A name, an attribute of whatever object, or an item at whatever place, in one form; None for all else."""
    if isinstance(node, ast.Name):
        return node.id
    if isinstance(node, ast.Attribute):
        return "." + node.attr
    if isinstance(node, ast.Subscript) and not isinstance(node.slice, ast.Slice):
        return None if key_of(node.value) is None else key_of(node.value) + "[]"
    return None


def meant_by(node):
    """The keys of all that the value may be, or goes over without having copied it: one for each choice, at least."""
    if isinstance(node, ast.IfExp):
        return meant_by(node.body) + meant_by(node.orelse)
    if isinstance(node, ast.BoolOp):
        return [key for part in node.values for key in meant_by(part)]
    if isinstance(node, ast.Call) and isinstance(node.func, ast.Name) and node.func.id in OVER:
        return [key for part in node.args for key in meant_by(part)]
    if isinstance(node, ast.Call) and isinstance(node.func, ast.Attribute) and node.func.attr in VIEWS:
        return meant_by(node.func.value)
    return [] if key_of(node) is None else [key_of(node)]


def assigned_pairs(target, value):
    """The pairs of keys that an assignment makes the same."""
    if isinstance(target, ast.Tuple) and isinstance(value, ast.Tuple):
        return [pair for parts in zip(target.elts, value.elts) for pair in assigned_pairs(*parts)]
    return [(key_of(target), key) for key in meant_by(value) if key_of(target) is not None]


def same_keys(owner, keys):
    """These keys, and all that stand for the same somewhere in the function, be it ahead or behind."""
    pairs = [pair for node in ast.walk(owner) if isinstance(node, ast.Assign)
             for target in node.targets for pair in assigned_pairs(target, node.value)]
    found, fresh = [], list(keys)
    while fresh:
        found.extend(fresh)
        fresh = [other for pair in pairs for key, other in (pair, pair[::-1]) if key in found and other not in found]
    return found


def changes_in(node):
    """The pairs (row, key) of all that is changed in a piece of code."""
    found = []
    for part in ast.walk(node):
        changed = None
        if isinstance(part, ast.Call) and isinstance(part.func, ast.Attribute) and part.func.attr in CHANGING:
            changed = part.func.value
        elif isinstance(part, ast.Subscript) and not isinstance(part.ctx, ast.Load):
            changed = part.value
        elif isinstance(part, ast.AugAssign):
            changed = part.target
        found.extend([(part.lineno, key) for key in meant_by(changed)])
    return found


def changed_while_walked(tree):
    """The rows, ascending, in which something is changed that a loop or a comprehension around them goes over."""
    rows = []
    for owner in ast.walk(tree):
        for node in ast.walk(owner) if isinstance(owner, ast.FunctionDef) else []:
            walked, inner = [], []
            if isinstance(node, ast.For):
                walked, inner = [node.iter], node.body
            elif isinstance(node, (ast.ListComp, ast.SetComp, ast.DictComp, ast.GeneratorExp)):
                walked, inner = [part.iter for part in node.generators], [node]
            keys = same_keys(owner, [key for part in walked for key in meant_by(part)])
            rows.extend([row for part in inner for row, key in changes_in(part) if key in keys])
    return sorted(set(rows))


class LanguageTest(unittest.TestCase):

    def test_the_folder_holds_plain_files_alone(self):
        names = [path.name for path in FOLDER.iterdir() if path.name != "__pycache__"]
        self.assertIn("__init__.py", names)
        for name in names:
            self.assertRegex(name, r"^[a-z0-9_]+\.py$")

    def test_sizes_and_signs(self):
        for name, text, tree in sources():
            lines = text.split("\n")
            self.assertLessEqual(len(lines), 399, name)
            for line in lines:
                self.assertLessEqual(len(line), 120, (name, line))
                self.assertTrue(all([" " <= sign <= "~" for sign in line]), (name, line))
            for node in ast.walk(tree):
                if isinstance(node, ast.FunctionDef):
                    self.assertLessEqual(node.end_lineno - node.lineno + 1, 40, (name, node.name))

    def test_statements_and_expressions(self):
        for name, _, tree in sources():
            for node in ast.walk(tree):
                self.assertIn(node.__class__.__name__, NODES, (name, getattr(node, "lineno", 0)))
                if isinstance(node, ast.Constant):
                    self.assertNotIsInstance(node.value, (float, complex), name)
                    if isinstance(node.value, str):
                        self.assertNotIn("%", node.value, name)
                if isinstance(node, ast.FunctionDef) and node not in self.properties(tree):
                    self.assertEqual(node.decorator_list, [], (name, node.name))

    def properties(self, tree):
        """The methods under property alone: with no other parameter and with just one statement, a return."""
        found = []
        for owner in ast.walk(tree):
            for node in owner.body if isinstance(owner, ast.ClassDef) else []:
                if isinstance(node, ast.FunctionDef) and "property" in [ast.unparse(by) for by in node.decorator_list]:
                    self.assertEqual(len(node.decorator_list), 1)
                    self.assertEqual([word.arg for word in node.args.args], ["self"])
                    self.assertEqual([item.__class__ for item in node.body], [ast.Expr, ast.Return])
                    found.append(node)
        return found

    def test_properties(self):
        """No property has the name of a method or of an attribute that is assigned, and none has a setter."""
        names = [node.name for _, _, tree in sources() for node in self.properties(tree)]
        self.assertEqual(sorted(names), sorted("shelf version log made standing sums unlike version looks".split()))
        methods, attributes = self.own_names()
        for name in names:
            self.assertNotIn(name, attributes)
            self.assertEqual(methods.count(name), names.count(name))

    def test_benches_are_iterated_over_and_compared_in_the_one_way(self):
        """With __getitem__, __iter__ and __len__ much is barred that no other rule of these tests sees."""
        bodies = {}
        for name, text, tree in sources():
            for word in ("(type)", "Meta", "metaclass=", "reversed(", ".sort(", "yield", "import product", "lambda",
                         ".add("):
                self.assertNotIn(word, text, name)
            for node in ast.walk(tree):
                if isinstance(node, ast.FunctionDef) and node.name in DOUBLE[1:]:
                    self.assertEqual((name, len(node.body), node.body[0].__class__), ("benches.py", 1, ast.Return))
                    bodies[node.name] = ast.unparse(node.body[0])
                if isinstance(node, ast.Call) and isinstance(node.func, ast.Name) and node.func.id == "iter":
                    self.assertEqual(name, "benches.py")
        self.assertEqual(bodies, {
            "__len__": "return len(self._table)", "__getitem__": "return entry_of(self._table, at)",
            "__iter__": "return iter(self._table)",
            "__eq__": "return isinstance(other, Bench) and self._table == other._table"})

    def test_handlers_catch_own_errors_alone(self):
        for name, _, tree in sources():
            for node in ast.walk(tree):
                if isinstance(node, ast.ExceptHandler):
                    self.assertIn(node.type.id, ("UnevenError", "Unfit"), name)

    def test_what_a_loop_goes_over_is_not_changed_in_it(self):
        for name, _, tree in sources():
            self.assertEqual(changed_while_walked(tree), [], name)

    def test_changes_of_what_a_loop_goes_over_are_seen(self):
        """By its name, another name, an attribute, an item, a view or a choice; told are the rows behind a def."""
        for body, rows in (
                ("for x in xs:\n xs.append(x)", [3]),
                ("for x in xs:\n if x:\n  xs[0] = x\n  return x", [4]),
                ("for x in xs:\n del xs[0]\n xs[1] += 1\n xs += [x]", [3, 4, 5]),
                ("while rows:\n ys = []\n for x in xs:\n  ys.append(x)\n xs = ys", [5]),
                ("ys = zs = xs\nfor x in ys:\n zs.pop()", [4]),
                ("ys, n = xs, 0\nfor x in xs:\n ys.pop()", [4]),
                ("for k, (x, y) in enumerate(zip(xs, ys)):\n ys.insert(0, x)", [3]),
                ("for x in reversed(xs):\n xs.remove(x)", [3]),
                ("it = zip(xs, ys)\nfor x, y in it:\n ys.append(x)", [4]),
                ("for k, x in table.items():\n table[k + 1] = x", [3]),
                ("for k in table:\n table.setdefault(k, []).append(k)", [3]),
                ("for x in self.rows:\n self.rows.append(x)", [3]),
                ("rows = self.rows\nfor x in rows:\n self.rows.append(x)", [4]),
                ("for x in other.rows:\n self.rows.append(x)", [3]),
                ("for x in rows[k]:\n rows[j].append(x)", [3]),
                ("row = rows[k]\nfor x in row:\n rows[j].append(x)", [4]),
                ("for x in xs if n else ys:\n ys.append(x)", [3]),
                ("for x in xs or ys:\n ys.append(x)", [3]),
                ("zs = xs if n else ys\nfor x in xs:\n zs.append(x)", [4]),
                ("for x in xs:\n (ys if n else xs).append(x)", [3]),
                ("return [xs.pop() for x in xs]", [2]),
                ("return [x for y in ys for x in xs if ys.pop()]", [2]),
                ("for x in list(xs):\n xs.append(x)", []),
                ("for k, x in list(table.items()):\n table[k + 1] = x", []),
                ("for x in xs[1:]:\n xs.append(x)", []),
                ("for k in range(len(xs)):\n xs[k] = 0", []),
                ("for x in xs:\n ys.append(x)\nxs.append(0)", []),
                ("ys = list(xs)\nfor x in xs:\n ys.append(x)", []),
                ("for x in xs:\n rows[x] = xs", []),
                ("for row in rows:\n row.append(0)", []),
                ("xs.extend([x for x in xs])", [])):
            text = "def told(self, xs, ys, n):\n " + body.replace("\n", "\n ")
            self.assertEqual(changed_while_walked(ast.parse(text)), rows, text)

    def test_module_level(self):
        for name, _, tree in sources():
            bound = []
            for node in tree.body:
                allowed = (ast.Expr, ast.ImportFrom, ast.FunctionDef, ast.ClassDef, ast.Assign)
                self.assertIsInstance(node, allowed, name)
                if isinstance(node, ast.ImportFrom):
                    bound.extend([alias.name for alias in node.names])
                elif isinstance(node, ast.Assign):
                    self.assertEqual(len(node.targets), 1, name)
                    bound.append(node.targets[0].id)
                elif not isinstance(node, ast.Expr):
                    bound.append(node.name)
            self.assertEqual(len(bound), len(set(bound)), name)
            self.check_inner_names(name, tree, bound)

    def check_inner_names(self, name, tree, bound):
        for node in ast.walk(tree):
            inner = None
            if isinstance(node, ast.arg):
                inner = node.arg
            elif isinstance(node, ast.Name) and isinstance(node.ctx, ast.Store) and node not in self.targets(tree):
                inner = node.id
            if inner is not None:
                self.assertNotIn(inner, bound, name)
                self.assertNotIn(inner, BUILTINS + BARRED, (name, node.lineno))

    def targets(self, tree):
        return [node.targets[0] for node in tree.body if isinstance(node, ast.Assign)]

    def test_imports(self):
        table = {}
        for name, _, tree in sources():
            table[name[:-3]] = []
            for node in ast.walk(tree):
                if isinstance(node, ast.ImportFrom):
                    self.assertEqual([alias.asname for alias in node.names], [None] * len(node.names), name)
                    if node.module in LIBRARY:
                        self.check_library(name, tree, node)
                        continue
                    self.assertEqual((node.level, node.module.split(".")[0]), (0, "unevenroads"), name)
                    table[name[:-3]].append(node.module.split(".")[1])
        while table:
            free = [name for name in table if not [used for used in table[name] if used in table]]
            self.assertNotEqual(free, [], "these files import from each other in a round: " + str(sorted(table)))
            table = {name: table[name] for name in table if name not in free}

    def check_library(self, name, tree, imported):
        """What is imported is called by its bare name only, with all arguments by position."""
        words = [alias.name for alias in imported.names]
        for word in words:
            self.assertIn(word, LIBRARY[imported.module], name)
        calls = [node for node in ast.walk(tree) if isinstance(node, ast.Call) and isinstance(node.func, ast.Name)
                 and node.func.id in words]
        self.assertEqual([node.keywords for node in calls], [[]] * len(calls), name)
        named = [node for node in ast.walk(tree) if isinstance(node, ast.Name) and node.id in words]
        self.assertEqual(len(named), len(calls), name)

    def test_classes(self):
        methods, attributes = self.own_names()
        self.assertEqual([word for word in methods if word in attributes], [])
        for name, _, tree in sources():
            for node in ast.walk(tree):
                if isinstance(node, ast.Attribute):
                    self.assertIn(node.attr, METHODS + methods + attributes + DOUBLE[-2:], (name, node.lineno))
                    if isinstance(node.ctx, ast.Store):
                        self.assertEqual(node.value.id, "self", name)
                        self.assertNotIn(node.attr, DOUBLE, name)

    def own_names(self):
        """The names of the methods, and of the attributes, of all classes of the package."""
        methods, attributes = [], []
        for _, _, tree in sources():
            for node in ast.walk(tree):
                if isinstance(node, ast.ClassDef):
                    methods.extend([item.name for item in node.body if isinstance(item, ast.FunctionDef)])
                if isinstance(node, ast.Attribute) and isinstance(node.ctx, ast.Store):
                    attributes.append(node.attr)
        return methods, attributes

    def test_beginnings_of_names(self):
        for name, text, tree in sources():
            self.assertNotIn("_wall", text, name)
            for node in ast.walk(tree):
                for field in ("id", "attr", "name", "arg"):
                    word = getattr(node, field, None)
                    if isinstance(word, str) and word not in DOUBLE:
                        self.assertFalse(word.startswith(BEGINNINGS), (name, word))

    def test_sets_stand_beside_in_or_directly_in_calls(self):
        for name, _, tree in sources():
            inner = [part for node in ast.walk(tree) if isinstance(node, (ast.Compare, ast.Call))
                     for part in ast.iter_child_nodes(node)]
            for node in ast.walk(tree):
                made = isinstance(node, ast.Call) and isinstance(node.func, ast.Name) and node.func.id == "set"
                if made or isinstance(node, (ast.Set, ast.SetComp)):
                    self.assertIn(node, inner, (name, node.lineno))

    def test_calls(self):
        methods, _ = self.own_names()
        for name, _, tree in sources():
            known = BUILTINS + FUNCTION_VALUES
            for node in ast.walk(tree):
                if isinstance(node, (ast.FunctionDef, ast.ClassDef)):
                    known.append(node.name)
                elif isinstance(node, ast.ImportFrom):
                    known.extend([alias.name for alias in node.names])
            for node in ast.walk(tree):
                if isinstance(node, ast.Call) and isinstance(node.func, ast.Name):
                    self.assertIn(node.func.id, known, (name, node.lineno))
                elif isinstance(node, ast.Call):
                    self.assertIn(node.func.attr, METHODS + methods, (name, node.lineno))

    def test_words_that_are_not_used(self):
        for name, _, tree in sources():
            for node in ast.walk(tree):
                word = getattr(node, "id", getattr(node, "attr", getattr(node, "name", None)))
                self.assertNotIn(word, BARRED, (name, getattr(node, "lineno", 0)))
