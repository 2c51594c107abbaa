"""Rules of ../shared/LANGUAGE.md that can be looked at simply, for every file of the package."""

import ast
import builtins
import os
import re
import unittest

FOLDER = os.path.join(os.path.dirname(os.path.dirname(os.path.abspath(__file__))), "trueimage")
BUILTINS = (
    "len range enumerate zip min max sum abs sorted reversed int str bool list tuple dict set isinstance repr any all "
    "divmod iter next map ord Exception ValueError KeyError True False None"
).split()
METHODS = (
    "append clear copy count endswith extend find get index insert isalnum isalpha isdigit islower isspace isupper items "
    "join keys ljust lower lstrip partition pop remove replace reverse rfind rjust rpartition rsplit rstrip setdefault "
    "split splitlines startswith strip update upper values zfill bit_length removeprefix removesuffix"
).split()
NEVER = "register mro elements open input law version_info with_traceback add_note".split()
BARRED = (
    "attrgetter breakpoint builtins compile copyright credits delattr dir eval exec exit gc getattr globals hasattr help id "
    "importlib license locals methodcaller os quit setattr super type vars sys"
).split()
WORDS = (
    "type typing typing_extensions enum Enum IntEnum StrEnum Flag IntFlag Generic Protocol ABC ABCMeta namedtuple NamedTuple "
    "TypedDict TYPE_CHECKING abstractmethod"
).split()
BEGINNINGS = ("__", "_wall", "_pe_", "_dcw_", "_enum_", "_cm_", "_twin_re_", "_lay_", "_law_", "_stub_", "_sre", "_WallAttr")
WHOLE = re.compile("(_cold|_tuplegetter|_outside|_record|_written_out|_member_names)[0-9_]*")
STATEMENTS = (
    ast.Assign, ast.AugAssign, ast.If, ast.While, ast.For, ast.Return, ast.Break, ast.Continue, ast.Pass, ast.Raise, ast.Assert,
    ast.Delete, ast.Expr, ast.FunctionDef, ast.Try,
)


def files():
    return sorted(name for name in os.listdir(FOLDER) if name.endswith(".py"))


def text_of(name):
    with open(os.path.join(FOLDER, name), encoding="utf-8", newline="") as file:
        return file.read()


def tree_of(name):
    return ast.parse(text_of(name))


def nodes(name):
    return ast.walk(tree_of(name))


def docstrings(tree):
    found = set()
    for node in ast.walk(tree):
        if isinstance(node, (ast.Module, ast.ClassDef, ast.FunctionDef)) and ast.get_docstring(node, False) is not None:
            found.add(id(node.body[0].value))
    return found


def bound_names(tree):
    for node in ast.walk(tree):
        if isinstance(node, (ast.FunctionDef, ast.ClassDef)):
            yield node.name
        elif isinstance(node, ast.arg):
            yield node.arg
        elif isinstance(node, ast.Name) and not isinstance(node.ctx, ast.Load):
            yield node.id
        elif isinstance(node, ast.ExceptHandler) and node.name:
            yield node.name


class LanguageTest(unittest.TestCase):
    def test_sizes_and_characters(self):
        for name in files():
            text = text_of(name)
            self.assertRegex(name, "^[a-z0-9_]+[.]py$")
            self.assertTrue(all(sign == "\n" or " " <= sign <= "~" for sign in text), name)
            self.assertLess(len(text.split("\n")), 400, name)
            self.assertLessEqual(max(len(line) for line in text.split("\n")), 120, name)
            for node in nodes(name):
                if isinstance(node, ast.FunctionDef):
                    self.assertLessEqual(node.end_lineno - node.lineno + 1, 40, (name, node.name))
        self.assertLessEqual(len(files()), 100)
        others = [name for name in os.listdir(FOLDER) if name not in files() and name != "__pycache__"]
        self.assertEqual(others, [])

    def test_imports(self):
        uses = {}
        for name in files():
            tree = tree_of(name)
            uses[name] = []
            for node in ast.walk(tree):
                self.assertNotIsInstance(node, ast.Import, name)
                if isinstance(node, ast.ImportFrom):
                    self.assertIn(node, tree.body)
                    self.assertEqual(node.level, 0)
                    self.assertTrue(node.module.startswith("trueimage."), name)
                    told = node.module.split(".")[1] + ".py"
                    uses[name].append(told)
                    defined = self.defined(tree_of(told))
                    for alias in node.names:
                        self.assertIn(alias.name, defined, (name, alias.name))
        known = []
        while len(known) < len(uses):
            ready = [name for name in uses if name not in known and all(told in known for told in uses[name])]
            self.assertNotEqual(ready, [], "files import from each other")
            known.extend(ready)

    def defined(self, tree):
        found = []
        for node in tree.body:
            if isinstance(node, (ast.FunctionDef, ast.ClassDef)):
                found.append(node.name)
            elif isinstance(node, ast.Assign):
                found.append(node.targets[0].id)
        return found

    def test_module_level(self):
        for name in files():
            tree = tree_of(name)
            self.assertIsNotNone(ast.get_docstring(tree), name)
            for node in tree.body[1:]:
                self.assertIsInstance(node, (ast.ImportFrom, ast.FunctionDef, ast.ClassDef, ast.Assign), name)
                if isinstance(node, ast.Assign):
                    self.assertEqual(len(node.targets), 1)
                    self.assertIsInstance(node.targets[0], ast.Name)
                    for inner in ast.walk(node.value):
                        self.assertNotIsInstance(inner, (ast.Call, ast.Lambda, ast.ListComp, ast.DictComp, ast.Set), name)
            defined = self.defined(tree)
            self.assertEqual(len(defined), len(set(defined)), name)
            imported = [alias.name for node in tree.body if isinstance(node, ast.ImportFrom) for alias in node.names]
            inner = list(bound_names(tree))
            for word in imported:
                self.assertNotIn(word, inner, name)

    def test_names(self):
        for name in files():
            for word in bound_names(tree_of(name)):
                # An examples' run leaves "_" among the builtins.
                if word in ("__init__", "__eq__", "__repr__", "__str__", "__len__", "_"):
                    continue
                self.assertFalse(word.startswith(BEGINNINGS), (name, word))
                self.assertIsNone(WHOLE.fullmatch(word), (name, word))
                self.assertFalse(hasattr(builtins, word), (name, word))
                self.assertNotIn(word, NEVER + BARRED, name)
            for node in nodes(name):
                if isinstance(node, ast.Attribute):
                    self.assertNotIn(node.attr, NEVER, name)
                if isinstance(node, ast.Name) and isinstance(node.ctx, ast.Load):
                    self.assertNotEqual(node.id, "_", name)
                    if hasattr(builtins, node.id):
                        self.assertIn(node.id, BUILTINS, name)

    def test_methods(self):
        own = [node.name for name in files() for node in nodes(name) if isinstance(node, ast.FunctionDef)]
        for name in files():
            for node in nodes(name):
                if isinstance(node, ast.Call) and isinstance(node.func, ast.Attribute):
                    self.assertIn(node.func.attr, METHODS + own, name)
                    if node.func.attr in METHODS:
                        self.assertEqual(node.keywords, [], name)

    def test_attributes_and_methods_have_unlike_names(self):
        for name in files():
            for node in nodes(name):
                if isinstance(node, ast.ClassDef):
                    methods = [inner.name for inner in node.body if isinstance(inner, ast.FunctionDef)]
                    self.assertEqual(len(methods), len(set(methods)))
                    stored = [inner.attr for inner in ast.walk(node) if isinstance(inner, ast.Attribute) and isinstance(inner.ctx, ast.Store)]
                    self.assertEqual([word for word in stored if word in methods], [], (name, node.name))

    def test_statements_and_expressions(self):
        for name in files():
            for node in nodes(name):
                if isinstance(node, ast.FunctionDef):
                    self.assertEqual(node.decorator_list, [], name)
                    for inner in ast.walk(node):
                        if isinstance(inner, ast.stmt):
                            self.assertIsInstance(inner, STATEMENTS, (name, inner.lineno))
                self.assertNotIsInstance(node, (ast.Div, ast.MatMult, ast.Global, ast.AsyncFunctionDef, ast.Await), name)
                if isinstance(node, ast.Compare):
                    for sign, right in zip(node.ops, node.comparators):
                        if isinstance(sign, (ast.Is, ast.IsNot)):
                            self.assertIsInstance(right, ast.Constant, name)
                            self.assertIn(right.value, (None, True, False), name)

    def test_strings(self):
        for name in files():
            tree = tree_of(name)
            docs = docstrings(tree)
            for node in ast.walk(tree):
                if isinstance(node, ast.Constant):
                    self.assertNotIsInstance(node.value, (float, complex, bytes), name)
                if isinstance(node, ast.Constant) and isinstance(node.value, str):
                    self.assertNotIn("%", node.value, name)
                    if id(node) not in docs:
                        for word in re.findall("[A-Za-z_]+", node.value):
                            self.assertNotIn(word, WORDS, name)
            for line in text_of(name).split("\n"):
                self.assertIsNone(re.search(r"\\[^nt\\\"']", line), (name, line))


def calls_in(tree):
    """Calls, each with the node that it stands in."""
    for node in ast.walk(tree):
        for child in ast.iter_child_nodes(node):
            if isinstance(child, ast.Call):
                yield child, node


def name_called(call):
    return call.func.id if isinstance(call.func, ast.Name) else call.func.attr if isinstance(call.func, ast.Attribute) else None


class MoreRulesTest(unittest.TestCase):
    """Rules that need a look at what stands around."""

    def test_views_are_iterated_at_once(self):
        # L23: zip and the like stand where they are iterated.
        makers = ("zip", "enumerate", "reversed", "range", "items", "keys", "values", "map")
        takers = ("list", "tuple", "dict", "sorted", "sum", "any", "all", "enumerate", "zip")
        for name in files():
            for call, around in calls_in(tree_of(name)):
                if name_called(call) in makers:
                    if isinstance(around, (ast.For, ast.comprehension)):
                        self.assertIs(around.iter, call, (name, call.lineno))
                    elif isinstance(around, ast.Compare):
                        self.assertIsInstance(around.ops[0], (ast.In, ast.NotIn))
                    else:
                        self.assertIsInstance(around, ast.Call, (name, call.lineno))
                        self.assertIn(name_called(around), takers + ("min", "max"), (name, call.lineno))

    def test_loops_do_not_change_what_they_go_over(self):
        # L23, as far as names and attributes tell it.
        changing = ("append", "extend", "insert", "pop", "remove", "clear", "update", "reverse", "setdefault", "add", "sort")
        for name in files():
            for loop in nodes(name):
                if not isinstance(loop, ast.For):
                    continue
                over = {ast.dump(part) for part in self.gone_over(loop.iter)}
                for node in ast.walk(ast.Module(body=loop.body, type_ignores=[])):
                    changed = None
                    if isinstance(node, ast.Call) and isinstance(node.func, ast.Attribute) and node.func.attr in changing:
                        changed = node.func.value
                    elif isinstance(node, ast.Subscript) and not isinstance(node.ctx, ast.Load):
                        changed = node.value
                    if changed is not None:
                        self.assertNotIn(ast.dump(changed), over, (name, node.lineno))

    def gone_over(self, node):
        """The names and attributes that a loop goes over, but for copies."""
        if isinstance(node, ast.Call) and isinstance(node.func, ast.Name):
            if node.func.id in ("zip", "enumerate", "reversed"):
                return [part for arg in node.args for part in self.gone_over(arg)]
            return []
        if isinstance(node, ast.Call) and isinstance(node.func, ast.Attribute) and node.func.attr in ("items", "keys", "values"):
            return self.gone_over(node.func.value)
        return [node] if isinstance(node, (ast.Name, ast.Attribute, ast.Subscript)) else []

    def test_sets(self):
        # L24: a set stands in len or sorted, behind in, or beside == alone.
        for name in files():
            tree = tree_of(name)
            for node in ast.walk(tree):
                self.assertNotIsInstance(node, (ast.GeneratorExp, ast.Yield, ast.YieldFrom, ast.Starred), name)
                for child in ast.iter_child_nodes(node):
                    if isinstance(child, (ast.Set, ast.SetComp)) or isinstance(child, ast.Call) and name_called(child) in ("set", "frozenset"):
                        right = isinstance(node, ast.Compare) or isinstance(node, ast.Call) and name_called(node) in ("len", "sorted")
                        self.assertTrue(right, (name, child.lineno))

    def test_keywords(self):
        told = {"sorted": ("key", "reverse"), "min": ("key", "default"), "max": ("key", "default"), "sum": ("start",), "enumerate": ("start",)}
        own = {node.name for name in files() for node in nodes(name) if isinstance(node, (ast.FunctionDef, ast.ClassDef))}
        for name in files():
            for call, _ in calls_in(tree_of(name)):
                for keyword in call.keywords:
                    called = name_called(call)
                    self.assertTrue(keyword.arg in told.get(called, ()) or called in own, (name, call.lineno))
                self.assertIsInstance(call.func, (ast.Name, ast.Attribute), (name, call.lineno))

    def test_tables_are_only_read(self):
        # L15: a list or dict at module level is indexed, gone over, asked for its length or what is in it.
        for name in files():
            tree = tree_of(name)
            tables = {node.targets[0].id for node in tree.body if isinstance(node, ast.Assign) and isinstance(node.value, (ast.List, ast.Dict))}
            for node in tree.body:
                if isinstance(node, ast.Assign):
                    for inner in ast.walk(node.value):
                        for child in ast.iter_child_nodes(inner):
                            self.assertNotIsInstance(child, (ast.List, ast.Dict), name)
            for node in ast.walk(tree):
                for child in ast.iter_child_nodes(node):
                    if isinstance(child, ast.Name) and child.id in tables and isinstance(child.ctx, ast.Load):
                        right = isinstance(node, ast.Subscript) and node.value is child and isinstance(node.ctx, ast.Load)
                        right = right or isinstance(node, ast.Compare) or isinstance(node, (ast.For, ast.comprehension)) and node.iter is child
                        right = right or isinstance(node, ast.Attribute) and node.attr in ("get", "items", "keys", "values")
                        right = right or isinstance(node, ast.Call) and name_called(node) in ("len", "list", "dict", "sorted")
                        self.assertTrue(right, (name, child.lineno))

    def test_names_of_methods_and_attributes(self):
        # L18, L26: no name is both, and attributes have no names of methods of values.
        methods, stored, read = set(), set(), set()
        for name in files():
            for node in nodes(name):
                if isinstance(node, ast.ClassDef):
                    methods |= {inner.name for inner in node.body if isinstance(inner, ast.FunctionDef)}
                if isinstance(node, ast.Attribute):
                    (read if isinstance(node.ctx, ast.Load) else stored).add(node.attr)
        methods.discard("__init__")
        self.assertEqual(methods & stored, set())
        self.assertEqual(read - stored - methods - set(METHODS), {"__init__"})
        barred = "items keys values pop update append clear extend insert remove reverse setdefault sort args encode decode hex fromhex format"
        self.assertEqual(stored & set(barred.split()), set())
        own = [word for word in methods for kind in (str, int, list, dict, set, bytes) if hasattr(kind, word)]
        self.assertEqual([word for word in own if word not in METHODS + ["add", "discard", "__eq__"]], [])

    def test_errors_are_made_on_the_spot(self):
        errors = {node.name for name in files() for node in nodes(name) if isinstance(node, ast.ClassDef) and name == "errors.py"}
        for name in files():
            for node in nodes(name):
                if isinstance(node, ast.Raise):
                    self.assertTrue(node.exc is None or name_called(node.exc) in errors, (name, node.lineno))
                if isinstance(node, ast.ExceptHandler):
                    self.assertIn(node.type.id, errors | {"KeyError"})

    def test_expressions_that_are_not_used(self):
        for name in files():
            for node in nodes(name):
                if isinstance(node, ast.BinOp):
                    self.assertNotIsInstance(node.op, ast.Pow, name)
                self.assertNotIsInstance(node, ast.NamedExpr, name)
                if isinstance(node, ast.FormattedValue):
                    # L7, L27: plain parts, without formats and without strings in the braces.
                    self.assertEqual((node.conversion, node.format_spec), (-1, None), name)
                    for inner in ast.walk(node.value):
                        self.assertFalse(isinstance(inner, ast.Constant) and isinstance(inner.value, str), name)


if __name__ == "__main__":
    unittest.main()
