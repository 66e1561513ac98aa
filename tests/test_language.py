"""The rules of the language that can be seen in the files themselves; by far not all of them."""

import ast
import builtins
import os
import re
import unittest

PACKAGE = os.path.join(os.path.dirname(os.path.dirname(os.path.abspath(__file__))), "lastingly")

LIBRARY = {
    "heapq": {"heappush", "heappop", "heapify", "heapreplace", "heappushpop"},
    "math": {"gcd", "lcm", "isqrt", "comb", "perm", "factorial"},
    "itertools": {"product", "combinations", "permutations", "chain", "accumulate", "pairwise", "islice",
                  "zip_longest"},
    "collections": {"defaultdict"},
    "__future__": {"annotations"},
}
BUILTINS = set("""
    len range enumerate zip min max sum abs sorted reversed int str bool bytes list tuple dict set frozenset
    isinstance ord repr any all divmod pow getattr hasattr setattr Exception ValueError TypeError KeyError
    IndexError LookupError ZeroDivisionError ArithmeticError OverflowError RuntimeError NotImplementedError
    AttributeError StopIteration NotImplemented iter next map property staticmethod classmethod super object
    """.split())
METHODS = set("""
    append clear copy count endswith extend find get index insert isalnum isalpha isdigit islower isspace isupper
    items join keys ljust lower lstrip partition pop remove replace reverse rfind rjust rpartition rsplit rstrip
    setdefault split splitlines startswith strip update upper values zfill bit_length title capitalize swapcase
    casefold center expandtabs removeprefix removesuffix rindex isascii isdecimal isnumeric istitle isidentifier
    isprintable translate add discard format sort encode decode hex
    """.split())
METHODS_OF_VALUES = set()
for value in ("", b"", 0, [], (), {}, set()):
    METHODS_OF_VALUES.update(name for name in dir(value) if not name.startswith("_"))
BARRED = (ast.Global, ast.AsyncFunctionDef, ast.AsyncFor, ast.AsyncWith, ast.Await, ast.Div, ast.MatMult, ast.TryStar)
NAMES_NOT_USED = set("""
    register mro elements open input law version_info with_traceback add_note attrgetter breakpoint builtins
    compile copyright credits delattr dir eval exec exit gc globals help id importlib license locals methodcaller
    os quit type vars sys chr
    """.split())
WORDS_NOT_USED = re.compile(
    r"\b(typing|typing_extensions|enum|Enum|IntEnum|StrEnum|Flag|IntFlag|Generic|Protocol|ABC|ABCMeta|namedtuple"
    r"|NamedTuple|TypedDict|TYPE_CHECKING|abstractmethod)\b|dataclass|overload|contextmanager|_wall|_WallAttr")

BEGINNINGS_NOT_USED = re.compile(
    r"__|_(wall|pe_|dcw_|enum_|cm_|twin_re_|lay_|law_|stub_|sre|WallAttr)"
    r"|_(cold|tuplegetter|outside|record|written_out|member_names)[0-9_]*$")


def names_bound(tree):
    """The names that a file's functions give to their parameters, variables and nested functions."""
    found = set()
    for function in ast.walk(tree):
        if isinstance(function, ast.FunctionDef):
            for node in ast.walk(function):
                if isinstance(node, ast.Name) and not isinstance(node.ctx, ast.Load):
                    found.add(node.id)
                elif isinstance(node, ast.arg):
                    found.add(node.arg)
                elif isinstance(node, (ast.MatchAs, ast.MatchStar, ast.ExceptHandler)) and node.name:
                    found.add(node.name)
    return found


def files_of_package():
    """The path of each file of the package, beside what Python itself may leave there."""
    found = []
    for folder, folders, names in os.walk(PACKAGE):
        folders[:] = sorted(name for name in folders if name != "__pycache__")
        found.extend(os.path.join(folder, name) for name in sorted(names))
    return found


def text_of(path):
    with open(path, "rb") as file:
        return file.read().decode("utf-8")


class Files(unittest.TestCase):
    def setUp(self):
        self.files = [(path, text_of(path)) for path in files_of_package()]
        self.nodes = [(f"{path}:{getattr(node, 'lineno', 0)}", node)
                      for path, text in self.files for node in ast.walk(ast.parse(text, path))]

    def test_names_of_files(self):
        self.assertTrue(os.path.isfile(os.path.join(PACKAGE, "__init__.py")))
        for path, _ in self.files:
            self.assertRegex(os.path.basename(path), r"^(__init__|__main__|[a-z][a-z0-9_]*)\.py$")

    def test_signs(self):
        for path, text in self.files:
            self.assertEqual([sign for sign in text if sign != "\n" and not " " <= sign <= "~"], [], path)
            self.assertEqual(re.findall(r"\\[^nt\\'\"]", text), [], path)

    def test_sizes_of_files(self):
        for path, text in self.files:
            lines = text.splitlines()
            self.assertLessEqual(len(lines), 399, path)
            self.assertLessEqual(max(len(line) for line in lines), 120, path)

    def test_sizes_of_functions(self):
        for place, node in self.nodes:
            if isinstance(node, ast.FunctionDef):
                self.assertLessEqual(node.end_lineno - node.lineno + 1, 40, place)

    def test_imports(self):
        for place, node in self.nodes:
            self.assertNotIsInstance(node, ast.Import, place)
            if isinstance(node, ast.ImportFrom):
                self.assertEqual(node.level, 0, place)
                names = [alias.name for alias in node.names]
                if node.module in LIBRARY:
                    self.assertLessEqual(set(names), LIBRARY[node.module], place)
                    self.assertEqual([alias.asname for alias in node.names], [None] * len(names), place)
                else:
                    self.assertRegex(node.module, r"^lastingly\.[a-z][a-z0-9_]*$", place)
                    self.assertNotIn("*", names, place)

    def test_module_level(self):
        for path, text in self.files:
            for at, node in enumerate(ast.parse(text).body):
                place = f"{path}:{node.lineno}"
                if isinstance(node, ast.Expr):
                    self.assertEqual(at, 0, place)
                    self.assertIsInstance(node.value, ast.Constant, place)
                elif isinstance(node, ast.Assign):
                    self.assertEqual(len(node.targets), 1, place)
                    self.assertIsInstance(node.targets[0], ast.Name, place)
                else:
                    self.assertIsInstance(node, (ast.ImportFrom, ast.FunctionDef, ast.ClassDef), place)

    def test_words_and_signs_of_the_language(self):
        for place, node in self.nodes:
            self.assertNotIsInstance(node, BARRED, place)
            if isinstance(node, ast.Constant):
                self.assertIsInstance(node.value, (int, str, bytes, bool, type(None)), place)
                if isinstance(node.value, str):
                    self.assertNotIn("%", node.value, place)
            if isinstance(node, ast.Name) and hasattr(builtins, node.id):
                self.assertIn(node.id, BUILTINS, place)
                self.assertIsInstance(node.ctx, ast.Load, place)
            if isinstance(node, ast.arg):
                self.assertFalse(hasattr(builtins, node.arg), place)

    def test_methods_of_values(self):
        for place, node in self.nodes:
            if isinstance(node, ast.Attribute) and node.attr in METHODS_OF_VALUES:
                self.assertIn(node.attr, METHODS, place)

    def test_names_that_are_not_used(self):
        for path, text in self.files:
            self.assertIsNone(WORDS_NOT_USED.search(text), path)
        for place, node in self.nodes:
            for field in ("id", "arg", "name"):
                self.assertNotIn(getattr(node, field, None), NAMES_NOT_USED, place)

    def test_beginnings_of_names(self):
        for path, text in self.files:
            for name in names_bound(ast.parse(text)):
                self.assertIsNone(BEGINNINGS_NOT_USED.match(name), path)
        for place, node in self.nodes:
            if isinstance(node, (ast.FunctionDef, ast.ClassDef)) and node.name != "__init__":
                self.assertIsNone(BEGINNINGS_NOT_USED.match(node.name), place)

    def test_no_variable_has_the_name_of_an_import_a_class_or_a_function(self):
        for path, text in self.files:
            tree = ast.parse(text)
            named = {alias.name for node in tree.body if isinstance(node, ast.ImportFrom) for alias in node.names}
            named |= {node.name for node in tree.body if isinstance(node, (ast.ClassDef, ast.FunctionDef))}
            self.assertEqual(names_bound(tree) & named, set(), path)

    def test_values_at_module_level_are_literals_and_functions(self):
        for path, text in self.files:
            tree = ast.parse(text)
            functions = {node.name for node in tree.body if isinstance(node, ast.FunctionDef)}
            for node in tree.body:
                if isinstance(node, ast.Assign):
                    names = {part.id for part in ast.walk(node.value) if isinstance(part, ast.Name)}
                    self.assertLessEqual(names, functions, f"{path}:{node.lineno}")

    def test_no_module_imports_itself_by_others(self):
        imports = {os.path.basename(path)[:-3]: {
            node.module.removeprefix("lastingly.") for node in ast.parse(text).body
            if isinstance(node, ast.ImportFrom) and node.module not in LIBRARY} for path, text in self.files}
        while imports:
            free = [name for name, others in imports.items() if not others & set(imports)]
            self.assertNotEqual(free, [], sorted(imports))
            for name in free:
                del imports[name]

    def test_what_is_iterated_once_is_not_kept(self):
        for place, node in self.nodes:
            if isinstance(node, (ast.Assign, ast.Return)) and isinstance(node.value, ast.Call):
                function = node.value.func
                name = getattr(function, "id", getattr(function, "attr", None))
                self.assertNotIn(name, ("zip", "enumerate", "reversed", "range", "map", "items", "keys", "values"), place)
            self.assertNotIsInstance(node, (ast.GeneratorExp, ast.Yield, ast.YieldFrom, ast.Set, ast.SetComp), place)


if __name__ == "__main__":
    unittest.main()
