"""The package keeps to the subset of Python that it is written in, as far as this can be seen from its text."""

import ast
import builtins
import os
import re
import unittest

ROOT = os.path.dirname(os.path.dirname(os.path.abspath(__file__)))
PACKAGE = os.path.join(ROOT, "asksmore")

BUILTINS = set("""len range enumerate zip min max sum abs sorted reversed int str bool bytes list tuple dict set
    frozenset isinstance ord repr any all divmod iter next map super property staticmethod classmethod
    Exception ValueError TypeError KeyError IndexError LookupError ZeroDivisionError ArithmeticError OverflowError
    RuntimeError NotImplementedError AttributeError StopIteration NotImplemented""".split())
METHODS = set("""append clear copy count endswith extend find get index insert isalnum isalpha isdigit islower
    isspace isupper items join keys ljust lower lstrip partition pop remove replace reverse rfind rjust rpartition
    rsplit rstrip setdefault split splitlines startswith strip update upper values zfill bit_length sort
    title capitalize swapcase casefold center expandtabs removeprefix removesuffix rindex isascii isdecimal isnumeric
    istitle isidentifier isprintable translate""".split())
MAGIC = set("""__init__ __eq__ __repr__ __str__ __len__ __enter__ __exit__ __call__ __iter__ __contains__ __getitem__
    __setitem__ __add__ __sub__ __mul__ __rmul__ __or__ __and__ __invert__""".split())
LIBRARY = {"heapq": {"heappush", "heappop", "heapify", "heapreplace", "heappushpop"},
           "math": {"gcd", "lcm", "isqrt", "comb", "perm", "factorial"}}
NOT_NAMES = set("""register mro elements open input law version_info with_traceback add_note attrgetter breakpoint
    builtins compile copyright credits delattr dir eval exec exit gc getattr globals hasattr help id importlib license
    locals methodcaller os quit setattr type vars sys""".split())
NOT_ATTRIBUTES = set("""items keys values pop update append clear extend insert remove reverse setdefault sort args
    encode decode hex fromhex format format_map mro""".split())
NOT_WORDS = re.compile(r"\b(type|typing|typing_extensions|enum|Enum|IntEnum|StrEnum|Flag|IntFlag|Generic|Protocol|ABC"
                       r"|ABCMeta|namedtuple|NamedTuple|TypedDict|TYPE_CHECKING|abstractmethod)\b"
                       r"|dataclass|overload|contextmanager|_wall|_WallAttr|Meta|metaclass=")
STATEMENTS = (ast.Assign, ast.AugAssign, ast.If, ast.While, ast.For, ast.Return, ast.Break, ast.Continue, ast.Pass,
              ast.Raise, ast.Assert, ast.Delete, ast.Nonlocal, ast.Match, ast.With, ast.Try, ast.Expr, ast.Import,
              ast.ImportFrom, ast.FunctionDef, ast.ClassDef, ast.AnnAssign)
WRONG_NODES = (ast.GeneratorExp, ast.Set, ast.Div, ast.AsyncFunctionDef, ast.Await, ast.Global, ast.Yield,
               ast.YieldFrom, ast.NamedExpr)


def sources():
    """The files of the package with their texts."""
    found = {}
    for name in sorted(os.listdir(PACKAGE)):
        if name != "__pycache__":
            with open(os.path.join(PACKAGE, name), encoding="utf-8") as file:
                found[name] = file.read()
    return found


SOURCES = sources()
TREES = {name: ast.parse(text) for name, text in SOURCES.items()}


def nodes(*kinds):
    for name, tree in TREES.items():
        for node in ast.walk(tree):
            if isinstance(node, kinds):
                yield f"{name}:{getattr(node, 'lineno', 0)}", node


def bound(tree):
    """What a file binds at module level by itself."""
    found = set()
    for node in tree.body:
        if isinstance(node, (ast.FunctionDef, ast.ClassDef)):
            found.add(node.name)
        elif isinstance(node, ast.Assign):
            found.update(target.id for target in node.targets)
    return found


class LanguageTest(unittest.TestCase):
    def test_files(self):
        self.assertIn("__init__.py", SOURCES)
        for name, text in SOURCES.items():
            self.assertRegex(name, r"^[a-z_]+\.py$")
            self.assertRegex(text, r"\A[ -~\n]*\Z", name)
            self.assertLessEqual(len(text.splitlines()), 399, name)
            self.assertLessEqual(max(map(len, text.splitlines())), 120, name)

    def test_functions_are_short(self):
        for place, node in nodes(ast.FunctionDef):
            self.assertLessEqual(node.end_lineno - node.lineno + 1, 40, place)

    def test_imports(self):
        for place, node in nodes(ast.Import, ast.ImportFrom):
            self.assertIsInstance(node, ast.ImportFrom, place)
            self.assertEqual(node.level, 0, place)
            names = {alias.name for alias in node.names}
            self.assertFalse(any(alias.asname for alias in node.names), place)
            if node.module in LIBRARY:
                self.assertLessEqual(names, LIBRARY[node.module], place)
            else:
                package, _, module = node.module.partition(".")
                self.assertEqual(package, "asksmore", place)
                self.assertLessEqual(names, bound(TREES[module + ".py"]), place)

    def test_imports_are_used_and_go_one_way(self):
        below = {}
        for name, tree in TREES.items():
            imports = [node for node in tree.body if isinstance(node, ast.ImportFrom)]
            below[name] = [node.module.split(".")[1] + ".py" for node in imports if "." in node.module]
            used = {node.id for node in ast.walk(tree) if isinstance(node, ast.Name)}
            for node in imports:
                self.assertLessEqual({alias.name for alias in node.names}, used, name)
        done = []
        while len(done) < len(below):
            free = [name for name in below if name not in done and all(other in done for other in below[name])]
            self.assertTrue(free, "files that import from each other")
            done += free

    def test_module_level(self):
        for name, tree in TREES.items():
            for node in tree.body:
                self.assertIsInstance(node, (ast.Expr, ast.ImportFrom, ast.FunctionDef, ast.ClassDef, ast.Assign), name)
                if isinstance(node, ast.Expr):
                    self.assertIsInstance(node.value, ast.Constant, name)

    def test_statements_and_expressions(self):
        for place, node in nodes(ast.stmt):
            self.assertIsInstance(node, STATEMENTS, place)
        for place, node in nodes(*WRONG_NODES):
            self.fail(f"{place}: {type(node).__name__}")
        for place, node in nodes(ast.Constant):
            self.assertNotIsInstance(node.value, float, place)
            if isinstance(node.value, str):
                self.assertNotIn("%", node.value, place)
        for place, node in nodes(ast.Compare):
            if any(isinstance(sign, (ast.Is, ast.IsNot)) for sign in node.ops):
                self.assertIsInstance(node.comparators[0], ast.Constant, place)

    def test_decorators_and_double_underscores(self):
        for place, node in nodes(ast.ClassDef):
            self.assertFalse(node.decorator_list, place)
        for place, node in nodes(ast.FunctionDef):
            for decorator in node.decorator_list:
                self.assertIn(decorator.id, ("property", "classmethod", "staticmethod"), place)
            if node.name.startswith("__"):
                self.assertIn(node.name, MAGIC, place)

    def test_sets_stand_where_they_may(self):
        for name, text in SOURCES.items():
            for found in re.finditer(r"\bset\(", text):
                self.assertRegex(text[:found.start()], r"(sorted\(|len\(|in )$", name)

    def test_names(self):
        own = set()
        for _, node in nodes(ast.FunctionDef, ast.ClassDef):
            own.add(node.name)
        for place, node in nodes(ast.Name):
            if isinstance(node.ctx, ast.Store):
                self.assertNotIn(node.id, dir(builtins), place)
                self.assertNotIn(node.id, NOT_NAMES, place)
            elif node.id in dir(builtins):
                self.assertIn(node.id, BUILTINS, place)
        for place, node in nodes(ast.arg):
            self.assertNotIn(node.arg, dir(builtins), place)
            self.assertNotIn(node.arg, NOT_NAMES, place)
        for place, node in nodes(ast.Call):
            if isinstance(node.func, ast.Attribute):
                self.assertIn(node.func.attr, METHODS | own, place)
        self.assertFalse(own & (NOT_NAMES | set(dir(builtins))))

    def test_no_name_of_an_import_is_given_another_meaning(self):
        for name, tree in TREES.items():
            taken = {alias.name for node in tree.body if isinstance(node, ast.ImportFrom) for alias in node.names}
            taken |= {node.name for node in tree.body if isinstance(node, ast.ClassDef)}
            stored = {node.id for node in ast.walk(tree) if isinstance(node, ast.Name) and
                      isinstance(node.ctx, ast.Store)}
            stored |= {node.arg for node in ast.walk(tree) if isinstance(node, ast.arg)}
            self.assertFalse(taken & stored, name)

    def test_no_name_is_a_method_and_an_attribute(self):
        methods, attributes = set(), set()
        for _, node in nodes(ast.ClassDef):
            methods |= {part.name for part in node.body if isinstance(part, ast.FunctionDef)}
        for _, node in nodes(ast.Attribute):
            if isinstance(node.ctx, ast.Store):
                attributes.add(node.attr)
        self.assertFalse(methods & attributes)
        self.assertFalse(attributes & NOT_ATTRIBUTES)

    def test_names_of_properties_and_class_methods_are_theirs_alone(self):
        found = {"plain": set(), "property": set(), "classmethod": set(), "staticmethod": set()}
        for _, node in nodes(ast.ClassDef):
            for part in node.body:
                if isinstance(part, ast.FunctionDef):
                    marks = [mark.id for mark in part.decorator_list] or ["plain"]
                    found[marks[0]].add(part.name)
        attributes = {node.attr for _, node in nodes(ast.Attribute) if isinstance(node.ctx, ast.Store)}
        for kind in ("property", "classmethod", "staticmethod"):
            others = [found[other] for other in found if other != kind] + [attributes, METHODS]
            self.assertFalse(found[kind] & set().union(*others), kind)

    def test_finally(self):
        simple = (ast.Name, ast.Attribute, ast.Constant, ast.Tuple, ast.Load, ast.Store)
        for place, node in nodes(ast.Try):
            for part in node.finalbody:
                if isinstance(part, ast.If):
                    self.assertRegex(ast.unparse(part.test), r"^[a-z.]+ is (not )?None$", place)
                    self.assertFalse(part.orelse, place)
                for row in part.body if isinstance(part, ast.If) else [part]:
                    self.assertIsInstance(row, ast.Assign, place)
                    for target in [*row.targets, row.value]:
                        self.assertTrue(all(isinstance(inner, simple) for inner in ast.walk(target)), place)

    def test_words_that_do_not_occur(self):
        for name, text in SOURCES.items():
            self.assertIsNone(NOT_WORDS.search(text), name)

    def test_every_function_says_what_it_is_for(self):
        for place, node in nodes(ast.FunctionDef, ast.ClassDef):
            if not node.name.startswith("__"):
                self.assertTrue(ast.get_docstring(node), place)


if __name__ == "__main__":
    unittest.main()
