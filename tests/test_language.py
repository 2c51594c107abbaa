"""Rules of ../shared/LANGUAGE.md that can be looked at simply, for every file of the package."""

import ast
import builtins
import os
import re
import unittest

FOLDER = os.path.join(os.path.dirname(os.path.dirname(os.path.abspath(__file__))), "trueimage")
BUILTINS = (
    "len range enumerate zip min max sum abs sorted reversed int str bool list tuple dict set isinstance repr any all "
    "divmod iter next map ord Exception ValueError KeyError True False None"
).split()
METHODS = (
    "append clear copy count endswith extend find get index insert isalnum isalpha isdigit islower isspace isupper items "
    "join keys ljust lower lstrip partition pop remove replace reverse rfind rjust rpartition rsplit rstrip setdefault "
    "split splitlines startswith strip update upper values zfill bit_length removeprefix removesuffix"
).split()
NEVER = "register mro elements open input law version_info with_traceback add_note".split()
BARRED = (
    "attrgetter breakpoint builtins compile copyright credits delattr dir eval exec exit gc getattr globals hasattr help id "
    "importlib license locals methodcaller os quit setattr super type vars sys"
).split()
WORDS = (
    "type typing typing_extensions enum Enum IntEnum StrEnum Flag IntFlag Generic Protocol ABC ABCMeta namedtuple NamedTuple "
    "TypedDict TYPE_CHECKING abstractmethod"
).split()
BEGINNINGS = ("__", "_wall", "_pe_", "_dcw_", "_enum_", "_cm_", "_twin_re_", "_lay_", "_law_", "_stub_", "_sre", "_WallAttr")
WHOLE = re.compile("(_cold|_tuplegetter|_outside|_record|_written_out|_member_names)[0-9_]*")
STATEMENTS = (
    ast.Assign, ast.AugAssign, ast.If, ast.While, ast.For, ast.Return, ast.Break, ast.Continue, ast.Pass, ast.Raise, ast.Assert,
    ast.Delete, ast.Expr, ast.FunctionDef, ast.Try,
)


def files():
    return sorted(name for name in os.listdir(FOLDER) if name.endswith(".py"))


def text_of(name):
    with open(os.path.join(FOLDER, name), encoding="utf-8", newline="") as file:
        return file.read()


def tree_of(name):
    return ast.parse(text_of(name))


def nodes(name):
    return ast.walk(tree_of(name))


def docstrings(tree):
    found = set()
    for node in ast.walk(tree):
        if isinstance(node, (ast.Module, ast.ClassDef, ast.FunctionDef)) and ast.get_docstring(node, False) is not None:
            found.add(id(node.body[0].value))
    return found


def bound_names(tree):
    for node in ast.walk(tree):
        if isinstance(node, (ast.FunctionDef, ast.ClassDef)):
            yield node.name
        elif isinstance(node, ast.arg):
            yield node.arg
        elif isinstance(node, ast.Name) and not isinstance(node.ctx, ast.Load):
            yield node.id
        elif isinstance(node, ast.ExceptHandler) and node.name:
            yield node.name


class LanguageTest(unittest.TestCase):
    def test_sizes_and_characters(self):
        for name in files():
            text = text_of(name)
            self.assertRegex(name, "^[a-z0-9_]+[.]py$")
            self.assertTrue(all(sign == "\n" or " " <= sign <= "~" for sign in text), name)
            self.assertLess(len(text.split("\n")), 400, name)
            self.assertLessEqual(max(len(line) for line in text.split("\n")), 120, name)
            for node in nodes(name):
                if isinstance(node, ast.FunctionDef):
                    self.assertLessEqual(node.end_lineno - node.lineno + 1, 40, (name, node.name))
        self.assertLessEqual(len(files()), 100)
        others = [name for name in os.listdir(FOLDER) if name not in files() and name != "__pycache__"]
        self.assertEqual(others, [])

    def test_imports(self):
        uses = {}
        for name in files():
            tree = tree_of(name)
            uses[name] = []
            for node in ast.walk(tree):
                self.assertNotIsInstance(node, ast.Import, name)
                if isinstance(node, ast.ImportFrom):
                    self.assertIn(node, tree.body)
                    self.assertEqual(node.level, 0)
                    self.assertTrue(node.module.startswith("trueimage."), name)
                    told = node.module.split(".")[1] + ".py"
                    uses[name].append(told)
                    defined = self.defined(tree_of(told))
                    for alias in node.names:
                        self.assertIn(alias.name, defined, (name, alias.name))
        known = []
        while len(known) < len(uses):
            ready = [name for name in uses if name not in known and all(told in known for told in uses[name])]
            self.assertNotEqual(ready, [], "files import from each other")
            known.extend(ready)

    def defined(self, tree):
        found = []
        for node in tree.body:
            if isinstance(node, (ast.FunctionDef, ast.ClassDef)):
                found.append(node.name)
            elif isinstance(node, ast.Assign):
                found.append(node.targets[0].id)
        return found

    def test_module_level(self):
        for name in files():
            tree = tree_of(name)
            self.assertIsNotNone(ast.get_docstring(tree), name)
            for node in tree.body[1:]:
                self.assertIsInstance(node, (ast.ImportFrom, ast.FunctionDef, ast.ClassDef, ast.Assign), name)
                if isinstance(node, ast.Assign):
                    self.assertEqual(len(node.targets), 1)
                    self.assertIsInstance(node.targets[0], ast.Name)
                    for inner in ast.walk(node.value):
                        self.assertNotIsInstance(inner, (ast.Call, ast.Lambda, ast.ListComp, ast.DictComp, ast.Set), name)
            defined = self.defined(tree)
            self.assertEqual(len(defined), len(set(defined)), name)
            imported = [alias.name for node in tree.body if isinstance(node, ast.ImportFrom) for alias in node.names]
            inner = list(bound_names(tree))
            for word in imported:
                self.assertNotIn(word, inner, name)

    def test_names(self):
        for name in files():
            for word in bound_names(tree_of(name)):
                if word in ("__init__", "__eq__", "__repr__", "__str__", "__len__"):
                    continue
                self.assertFalse(word.startswith(BEGINNINGS), (name, word))
                self.assertIsNone(WHOLE.fullmatch(word), (name, word))
                self.assertFalse(hasattr(builtins, word), (name, word))
                self.assertNotIn(word, NEVER + BARRED, name)
            for node in nodes(name):
                if isinstance(node, ast.Attribute):
                    self.assertNotIn(node.attr, NEVER, name)
                if isinstance(node, ast.Name) and isinstance(node.ctx, ast.Load):
                    self.assertNotEqual(node.id, "_", name)
                    if hasattr(builtins, node.id):
                        self.assertIn(node.id, BUILTINS, name)

    def test_methods(self):
        own = [node.name for name in files() for node in nodes(name) if isinstance(node, ast.FunctionDef)]
        for name in files():
            for node in nodes(name):
                if isinstance(node, ast.Call) and isinstance(node.func, ast.Attribute):
                    self.assertIn(node.func.attr, METHODS + own, name)
                    if node.func.attr in METHODS:
                        self.assertEqual(node.keywords, [], name)

    def test_attributes_and_methods_have_unlike_names(self):
        for name in files():
            for node in nodes(name):
                if isinstance(node, ast.ClassDef):
                    methods = [inner.name for inner in node.body if isinstance(inner, ast.FunctionDef)]
                    self.assertEqual(len(methods), len(set(methods)))
                    stored = [inner.attr for inner in ast.walk(node) if isinstance(inner, ast.Attribute) and isinstance(inner.ctx, ast.Store)]
                    self.assertEqual([word for word in stored if word in methods], [], (name, node.name))

    def test_statements_and_expressions(self):
        for name in files():
            for node in nodes(name):
                if isinstance(node, ast.FunctionDef):
                    self.assertEqual(node.decorator_list, [], name)
                    for inner in ast.walk(node):
                        if isinstance(inner, ast.stmt):
                            self.assertIsInstance(inner, STATEMENTS, (name, inner.lineno))
                self.assertNotIsInstance(node, (ast.Div, ast.MatMult, ast.Global, ast.AsyncFunctionDef, ast.Await), name)
                if isinstance(node, ast.Compare):
                    for sign, right in zip(node.ops, node.comparators):
                        if isinstance(sign, (ast.Is, ast.IsNot)):
                            self.assertIsInstance(right, ast.Constant, name)
                            self.assertIn(right.value, (None, True, False), name)

    def test_strings(self):
        for name in files():
            tree = tree_of(name)
            docs = docstrings(tree)
            for node in ast.walk(tree):
                if isinstance(node, ast.Constant):
                    self.assertNotIsInstance(node.value, (float, complex, bytes), name)
                if isinstance(node, ast.Constant) and isinstance(node.value, str):
                    self.assertNotIn("%", node.value, name)
                    if id(node) not in docs:
                        for word in re.findall("[A-Za-z_]+", node.value):
                            self.assertNotIn(word, WORDS, name)
            for line in text_of(name).split("\n"):
                self.assertIsNone(re.search(r"\\[^nt\\\"']", line), (name, line))


if __name__ == "__main__":
    unittest.main()
