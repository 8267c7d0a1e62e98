"""The form of the package's files: what of ../shared/LANGUAGE.md can be seen in them."""

import ast
import builtins
import os
import re
import unittest

ROOT = os.path.dirname(os.path.dirname(os.path.abspath(__file__)))
PACKAGE = os.path.join(ROOT, "farthestcut")
BUILT_IN = set(
    "len range enumerate zip min max sum abs sorted reversed int str bool list tuple dict set frozenset isinstance "
    "ord repr any all divmod Exception ValueError TypeError KeyError IndexError LookupError ZeroDivisionError "
    "ArithmeticError OverflowError RuntimeError NotImplementedError AttributeError StopIteration".split()
)
METHODS = set(
    "append clear copy count endswith extend find get index insert isalnum isalpha isdigit islower isspace isupper "
    "items join keys ljust lower lstrip partition pop remove replace reverse rfind rjust rpartition rsplit rstrip "
    "setdefault split splitlines startswith strip update upper values zfill bit_length".split()
)
NODES = (
    ast.Module, ast.Expr, ast.ImportFrom, ast.alias, ast.FunctionDef, ast.ClassDef, ast.arguments, ast.arg,
    ast.Assign, ast.AugAssign, ast.If, ast.While, ast.For, ast.Return, ast.Break, ast.Continue, ast.Pass, ast.Raise,
    ast.Try, ast.ExceptHandler, ast.Call, ast.keyword, ast.Name, ast.Attribute, ast.Subscript, ast.Slice,
    ast.Constant, ast.List, ast.Tuple, ast.Dict, ast.BinOp, ast.UnaryOp, ast.BoolOp, ast.Compare, ast.IfExp,
    ast.ListComp, ast.comprehension, ast.JoinedStr, ast.FormattedValue, ast.Lambda,
    ast.operator, ast.unaryop, ast.boolop, ast.cmpop, ast.expr_context,
)
WORDS_OUT = set(
    "type typing typing_extensions enum Enum IntEnum StrEnum Flag IntFlag Generic Protocol ABC ABCMeta namedtuple "
    "NamedTuple TypedDict TYPE_CHECKING abstractmethod".split()
)
NAMES_OUT = set(
    "register mro elements open input version_info with_traceback add_note format format_map attrgetter breakpoint "
    "builtins compile copyright credits delattr dir eval exec exit gc getattr globals hasattr help id importlib "
    "license locals methodcaller os quit setattr super type vars sys chr".split()
)
FILES_OUT = ("test", "tests", "testing", "site", "conftest", "sitecustomize", "usercustomize")
WALKED = ("zip", "enumerate", "reversed", "range")
WALKED_METHODS = ("items", "keys", "values")
WALKERS = ("list", "tuple", "dict", "sorted", "sum", "any", "all", "enumerate", "zip", "min", "max")
TWO_UNDERSCORES = ("__init__", "__eq__", "__repr__", "__str__", "__len__")


def sources():
    told = {}
    for name in sorted(os.listdir(PACKAGE)):
        if name != "__pycache__":
            with open(os.path.join(PACKAGE, name), encoding="utf-8", newline="") as file:
                told[name] = file.read()
    return told


def top_names(tree):
    names = []
    for node in tree.body:
        if isinstance(node, (ast.FunctionDef, ast.ClassDef)):
            names.append(node.name)
        elif isinstance(node, ast.Assign):
            names.append(node.targets[0].id)
        elif isinstance(node, ast.ImportFrom):
            names.extend(alias.name for alias in node.names)
    return names


def is_plain(node):
    if isinstance(node, ast.Constant):
        return isinstance(node.value, (int, str)) or node.value is None
    if isinstance(node, ast.UnaryOp):
        return isinstance(node.op, ast.USub) and is_plain(node.operand)
    if isinstance(node, (ast.List, ast.Tuple)):
        return all(is_plain(one) for one in node.elts)
    return isinstance(node, ast.Dict) and all(is_plain(one) for one in node.keys + node.values)


def bound_within(function):
    names = [one.arg for one in ast.walk(function) if isinstance(one, ast.arg)]
    return names + [one.id for one in ast.walk(function)
                    if isinstance(one, ast.Name) and isinstance(one.ctx, ast.Store)]


def above(tree):
    told = {}
    for node in ast.walk(tree):
        for inner in ast.iter_child_nodes(node):
            told[inner] = node
    return told


def is_walked_on_the_spot(node, over):
    if isinstance(over, (ast.For, ast.comprehension)):
        return over.iter is node
    if isinstance(over, ast.Call) and isinstance(over.func, ast.Name):
        return over.func.id in WALKERS and node in over.args
    return False


class TestLanguage(unittest.TestCase):
    def each(self, kinds=ast.AST):
        for name, text in sources().items():
            for node in ast.walk(ast.parse(text)):
                if isinstance(node, kinds):
                    yield name, node

    def place(self, name, node):
        return f"{name}:{getattr(node, 'lineno', 0)}"

    def test_files(self):
        self.assertIn("__init__.py", sources())
        for name, text in sources().items():
            stem = name[:-3]
            self.assertRegex(name, r"\A([a-z][a-z0-9_]*|__init__)\.py\Z")
            self.assertNotIn(stem, FILES_OUT)
            self.assertFalse(stem.startswith("test_") or stem in WORDS_OUT, name)
            self.assertTrue(stem == "__init__" or not hasattr(builtins, stem), name)
            self.assertTrue(text.endswith("\n"))
            self.assertEqual([sign for sign in text if sign != "\n" and not " " <= sign <= "~"], [], name)

    def test_sizes(self):
        for name, text in sources().items():
            rows = text.split("\n")
            self.assertLessEqual(len(rows), 400, name)
            self.assertLessEqual(max(len(row) for row in rows), 120, name)
        for name, node in self.each(ast.FunctionDef):
            self.assertLessEqual(node.end_lineno - node.lineno + 1, 40, self.place(name, node))

    def test_words_out(self):
        for name, text in sources().items():
            self.assertEqual(WORDS_OUT.intersection(re.findall(r"\w+", text)), set(), name)
            self.assertIsNone(re.search("dataclass|overload|contextmanager", text), name)

    def test_imports(self):
        trees = {name[:-3]: ast.parse(text) for name, text in sources().items()}
        drawn = {}
        for stem, tree in trees.items():
            drawn[stem] = []
            for node in tree.body:
                if isinstance(node, ast.ImportFrom):
                    self.assertEqual((node.level, node.module.split(".")[0]), (0, "farthestcut"), stem)
                    self.assertEqual(len(node.module.split(".")), 2, stem)
                    source = node.module.split(".")[1]
                    drawn[stem].append(source)
                    own = [one for one in trees[source].body if not isinstance(one, ast.ImportFrom)]
                    for alias in node.names:
                        self.assertIsNone(alias.asname, stem)
                        self.assertIn(alias.name, top_names(ast.Module(own, [])), stem)
        self.assertEqual(drawn["__init__"], [])
        while drawn:
            ends = [stem for stem in drawn if not set(drawn[stem]).intersection(drawn)]
            self.assertNotEqual(ends, [], "files draw from one another")
            drawn = {stem: drawn[stem] for stem in drawn if stem not in ends}

    def test_imports_are_used(self):
        for name, text in sources().items():
            tree = ast.parse(text)
            used = [node.id for node in ast.walk(tree) if isinstance(node, ast.Name)]
            for node in tree.body:
                if isinstance(node, ast.ImportFrom):
                    for alias in node.names:
                        self.assertIn(alias.name, used, name)

    def test_the_top(self):
        for name, text in sources().items():
            tree = ast.parse(text)
            for number, node in enumerate(tree.body):
                where = self.place(name, node)
                if isinstance(node, ast.Expr):
                    self.assertTrue(number == 0 and isinstance(node.value.value, str), where)
                elif isinstance(node, ast.Assign):
                    self.assertTrue(isinstance(node.targets[0], ast.Name) and is_plain(node.value), where)
                else:
                    self.assertIsInstance(node, (ast.ImportFrom, ast.FunctionDef, ast.ClassDef), where)
            names = top_names(tree)
            self.assertEqual(len(set(names)), len(names), name)

    def test_nodes(self):
        for name, node in self.each():
            self.assertIsInstance(node, NODES, self.place(name, node))
            self.assertNotIsInstance(node, (ast.Div, ast.MatMult), self.place(name, node))

    def test_statements(self):
        for name, node in self.each():
            where = self.place(name, node)
            if isinstance(node, ast.Assign):
                self.assertEqual(len(node.targets), 1, where)
                self.assertNotIsInstance(node.targets[0], (ast.Tuple, ast.List), where)
            if isinstance(node, (ast.For, ast.While)):
                self.assertEqual(node.orelse, [], where)
            if isinstance(node, ast.Try):
                self.assertEqual(node.finalbody, [], where)
            if isinstance(node, ast.ExceptHandler):
                self.assertIsInstance(node.type, ast.Name, where)
                self.assertNotIn(node.type.id, ("Exception", "TypeError", "ValueError", "LookupError"), where)
            if isinstance(node, ast.Raise):
                self.assertIsInstance(node.exc, ast.Call, where)
            if isinstance(node, ast.ListComp):
                self.assertEqual(len(node.generators), 1, where)
                self.assertLessEqual(len(node.generators[0].ifs), 1, where)

    def test_functions(self):
        for name, node in self.each(ast.FunctionDef):
            where = self.place(name, node)
            self.assertEqual(node.decorator_list, [], where)
            self.assertIsNone(node.returns, where)
            self.assertIsNone(node.args.vararg, where)
            self.assertIsNone(node.args.kwarg, where)
            self.assertEqual(node.args.kwonlyargs + node.args.posonlyargs, [], where)
            self.assertTrue(all(one.annotation is None for one in node.args.args), where)
            self.assertTrue(all(is_plain(one) for one in node.args.defaults), where)

    def test_classes(self):
        methods = set()
        values = set()
        for name, node in self.each(ast.ClassDef):
            where = self.place(name, node)
            self.assertEqual(node.decorator_list + node.keywords, [], where)
            self.assertLessEqual(len(node.bases), 1, where)
            names = [one.name for one in node.body if isinstance(one, ast.FunctionDef)]
            self.assertEqual(len(set(names)), len(names), where)
            methods.update(names)
            for one in node.body:
                self.assertIsInstance(one, (ast.FunctionDef, ast.Pass), where)
            for one in ast.walk(node):
                if isinstance(one, ast.Attribute) and isinstance(one.ctx, ast.Store):
                    values.add(one.attr)
        self.assertEqual(methods.intersection(values), set())

    def test_names(self):
        for name, node in self.each((ast.Name, ast.arg, ast.Attribute, ast.FunctionDef, ast.ClassDef)):
            where = self.place(name, node)
            word = {ast.Name: "id", ast.arg: "arg", ast.Attribute: "attr"}.get(node.__class__, "name")
            word = getattr(node, word)
            self.assertTrue(not word.startswith("_") or word in TWO_UNDERSCORES, where)
            self.assertNotIn(word, NAMES_OUT, where)
            if isinstance(node, ast.Name) and hasattr(builtins, word):
                self.assertIn(word, BUILT_IN, where)

    def test_locals(self):
        for name, text in sources().items():
            tree = ast.parse(text)
            taken = set(dir(builtins))
            for node in tree.body:
                if isinstance(node, ast.ImportFrom):
                    taken.update(alias.name for alias in node.names)
                if isinstance(node, (ast.ClassDef, ast.FunctionDef)):
                    taken.add(node.name)
            for node in ast.walk(tree):
                if isinstance(node, ast.FunctionDef):
                    self.assertEqual(taken.intersection(bound_within(node)), set(), self.place(name, node))

    def test_is(self):
        for name, node in self.each(ast.Compare):
            sides = [node.left] + node.comparators
            for number, op in enumerate(node.ops):
                if isinstance(op, (ast.Is, ast.IsNot)):
                    right = sides[number + 1]
                    self.assertIsInstance(right, ast.Constant, self.place(name, node))
                    self.assertTrue(right.value in (None, True, False), self.place(name, node))

    def test_calls(self):
        own = {node.name for name, node in self.each(ast.FunctionDef)}
        for name, text in sources().items():
            tree = ast.parse(text)
            over = above(tree)
            for node in ast.walk(tree):
                where = self.place(name, node)
                if isinstance(node, ast.Name) and node.id in BUILT_IN and node.id in WALKED + ("set", "frozenset"):
                    self.assertNotIn(node.id, ("set", "frozenset"), where)
                    self.assertTrue(is_walked_on_the_spot(over[node], over[over[node]]), where)
                if isinstance(node, ast.Call) and isinstance(node.func, ast.Attribute):
                    self.assertIn(node.func.attr, METHODS | own | {"__init__"}, where)
                    if node.func.attr in WALKED_METHODS:
                        self.assertTrue(is_walked_on_the_spot(node, over[node]), where)

    def test_texts_and_numbers(self):
        for name, text in sources().items():
            self.assertIsNone(re.search(r"\\[^nt\\\"']", text), name)
        for name, node in self.each((ast.Constant, ast.BinOp)):
            where = self.place(name, node)
            if isinstance(node, ast.Constant):
                self.assertNotIsInstance(node.value, (float, complex, bytes), where)
                self.assertFalse(isinstance(node.value, str) and chr(37) in node.value, where)
            elif isinstance(node.op, ast.Pow):
                self.assertTrue(isinstance(node.right, ast.Constant) and 0 <= node.right.value <= 64, where)


if __name__ == "__main__":
    unittest.main()
