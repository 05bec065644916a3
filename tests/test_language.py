"""Those rules of LANGUAGE.md that can be checked row by row, for all files of the package."""

import ast
import builtins
import pathlib
import re
import unittest

PACKAGE = pathlib.Path(__file__).resolve().parent.parent / "otherpace"
LIBRARY = {
    "heapq": "heappush heappop heapify heapreplace heappushpop".split(),
    "math": "gcd lcm isqrt comb perm factorial".split(),
    "itertools": "product combinations permutations chain accumulate pairwise islice zip_longest".split(),
    "collections": ["defaultdict"],
}
BUILTINS = set("""len range enumerate zip min max sum abs sorted reversed int str bool list tuple dict set frozenset
isinstance ord repr any all divmod pow getattr hasattr setattr Exception ValueError TypeError KeyError IndexError
LookupError ZeroDivisionError ArithmeticError OverflowError RuntimeError NotImplementedError AttributeError
StopIteration NotImplemented iter next map super""".split())
METHODS = set("""append clear copy count endswith extend find get index insert isalnum isalpha isdigit islower isspace
isupper items join keys ljust lower lstrip partition pop remove replace reverse rfind rjust rpartition rsplit rstrip
setdefault split splitlines startswith strip update upper values zfill bit_length sort add discard format title
capitalize swapcase casefold center expandtabs removeprefix removesuffix rindex isascii isdecimal isnumeric istitle
isidentifier isprintable translate from_iterable""".split())
BARRED_NAMES = set("""register mro elements open input law version_info with_traceback add_note attrgetter breakpoint
builtins compile copyright credits delattr dir eval exec exit gc globals help id importlib license locals methodcaller
os quit type vars""".split())
BARRED_WORDS = re.compile(r"\b(typing|typing_extensions|enum|Enum|IntEnum|StrEnum|Flag|IntFlag|Generic|Protocol|ABC|"
                          r"ABCMeta|namedtuple|NamedTuple|TypedDict|TYPE_CHECKING|abstractmethod)\b|"
                          r"dataclass|overload|contextmanager|_wall|_WallAttr")
# Generator expressions are barred in most places once a class compares; lists always stand.
BARRED_NODES = (ast.Global, ast.AsyncFunctionDef, ast.AsyncFor, ast.AsyncWith, ast.Await, ast.Div, ast.GeneratorExp,
                ast.MatMult, ast.TryStar)
FILES = {path.stem: path.read_text(encoding="utf-8") for path in sorted(PACKAGE.glob("*.py"))}
TREES = {stem: ast.parse(text) for stem, text in FILES.items()}


def nodes(*kinds):
    for stem, tree in TREES.items():
        for node in ast.walk(tree):
            if isinstance(node, kinds):
                yield f"{stem}.py:{getattr(node, 'lineno', '?')}", node


def bound_names(tree):
    """The names that are bound in a tree, each with its line; attributes and methods are not among them."""
    methods = {item for node in ast.walk(tree) if isinstance(node, ast.ClassDef) for item in node.body}
    for node in ast.walk(tree):
        if isinstance(node, ast.Name) and not isinstance(node.ctx, ast.Load):
            yield node.id, node.lineno
        elif isinstance(node, ast.arg):
            yield node.arg, node.lineno
        elif isinstance(node, (ast.FunctionDef, ast.ClassDef)) and node not in methods:
            yield node.name, node.lineno


def defined_names(tree):
    """The names that a file defines itself, and does not import."""
    values = [target.id for node in tree.body if isinstance(node, ast.Assign) for target in node.targets]
    return [node.name for node in tree.body if hasattr(node, "name")] + values


def imports(tree):
    return [node for node in tree.body if isinstance(node, ast.ImportFrom)]


class Language(unittest.TestCase):
    def test_files(self):
        for path in PACKAGE.rglob("*"):
            if "__pycache__" not in path.parts:
                self.assertRegex(path.name, r"^([a-z][a-z0-9_]*|__init__|__main__)\.py$")
        self.assertLessEqual(len(FILES), 100)

    def test_characters_and_sizes(self):
        for stem, text in FILES.items():
            self.assertRegex(text, r"\A[ -~\n]*\Z", stem)
            lines = text.split("\n")
            self.assertLess(len(lines), 400, stem)
            self.assertLessEqual(max(map(len, lines)), 120, stem)
        for where, node in nodes(ast.FunctionDef):
            self.assertLessEqual(node.end_lineno - node.lineno + 1, 40, where)

    def test_words(self):
        for stem, text in FILES.items():
            self.assertIsNone(BARRED_WORDS.search(text), stem)
            for word in re.findall(r"\w*__\w*", text):
                self.assertRegex(word, r"^__(init|eq|repr|str|len)__$", stem)

    def test_imports(self):
        for stem, tree in TREES.items():
            for node in ast.walk(tree):
                self.assertNotIsInstance(node, ast.Import, stem)
            for node in imports(tree):
                folder, _, name = node.module.partition(".")
                known = LIBRARY.get(node.module)
                if known is None:
                    self.assertEqual(folder, "otherpace", stem)
                    known = defined_names(TREES[name])
                for alias in node.names:
                    self.assertIn(alias.name, known, stem)
                    self.assertIsNone(alias.asname, stem)

    def test_no_circle_of_imports(self):
        left = {stem: {node.module.partition(".")[2] for node in imports(tree) if node.module not in LIBRARY}
                for stem, tree in TREES.items()}
        while left:
            free = [stem for stem, needed in left.items() if not needed & set(left)]
            self.assertTrue(free, left)
            left = {stem: needed for stem, needed in left.items() if stem not in free}

    def test_module_level(self):
        for stem, tree in TREES.items():
            self.assertIsNotNone(ast.get_docstring(tree), stem)
            seen = [alias.name for node in imports(tree) for alias in node.names]
            for at, node in enumerate(tree.body):
                self.assertIsInstance(node, (ast.Expr, ast.ImportFrom, ast.FunctionDef, ast.ClassDef, ast.Assign))
                if isinstance(node, ast.Expr):
                    self.assertEqual(at, 0, stem)
                if isinstance(node, ast.Assign):
                    for part in ast.walk(node.value):
                        # Only functions that are defined above; they are taken for their names here.
                        if isinstance(part, ast.Name):
                            self.assertIn(part.id, seen, stem)
                    ast.literal_eval(re.sub(r":\s*[a-z_]+\b", ": 0", ast.unparse(node.value)))
                    seen.extend(target.id for target in node.targets)
                if isinstance(node, (ast.FunctionDef, ast.ClassDef)):
                    seen.append(node.name)
            self.assertEqual(len(seen), len(set(seen)), stem)

    def test_tables_are_only_read(self):
        for stem, tree in TREES.items():
            tables = {target.id for node in tree.body if isinstance(node, ast.Assign) for target in node.targets
                      if isinstance(node.value, (ast.Dict, ast.List))}
            readers = {id(child) for node in ast.walk(tree) for child in ast.iter_child_nodes(node)
                       if isinstance(node, ast.Subscript) and child is node.value
                       or isinstance(node, ast.Compare) and child in node.comparators}
            for node in ast.walk(tree):
                if isinstance(node, ast.Name) and node.id in tables and isinstance(node.ctx, ast.Load):
                    self.assertIn(id(node), readers, f"{stem}.py:{node.lineno}")

    def test_calls_with_stars(self):
        for where, node in nodes(ast.Call):
            for arg in node.args:
                if isinstance(arg, ast.Starred):
                    self.assertIsInstance(arg.value, (ast.Name, ast.Attribute), where)

    def test_nodes(self):
        for where, node in nodes(*BARRED_NODES):
            self.fail(f"{where}: {node}")
        for where, node in nodes(ast.Constant):
            self.assertNotIsInstance(node.value, (float, complex, bytes), where)
        for where, node in nodes(ast.BinOp):
            if isinstance(node.op, ast.Pow):
                self.assertIsInstance(node.right, ast.Constant, where)
                self.assertIn(node.right.value, range(65), where)
        for where, node in nodes(ast.FunctionDef):
            self.assertIn([ast.unparse(item) for item in node.decorator_list], ([], ["classmethod"]), where)
        for where, node in nodes(ast.Compare):
            if isinstance(node.ops[0], (ast.Is, ast.IsNot)):
                self.assertIn(ast.unparse(node.comparators[0]), ("None", "True", "False"), where)

    def test_strings(self):
        docstrings = {id(node.body[0].value) for _, node in nodes(ast.Module, ast.FunctionDef, ast.ClassDef)
                      if isinstance(node.body[0], ast.Expr)}
        for where, node in nodes(ast.Constant):
            if isinstance(node.value, str):
                self.assertNotIn("%", node.value, where)
                self.assertFalse(node.value.endswith(("._", ".__")), where)
                if id(node) not in docstrings:
                    self.assertNotRegex(node.value, r"\btype\b", where)

    def test_names(self):
        for stem, tree in TREES.items():
            own = {alias.name for node in imports(tree) for alias in node.names}
            own |= {node.name for node in tree.body if isinstance(node, ast.ClassDef)}
            for name, line in bound_names(tree):
                where = f"{stem}.py:{line}"
                self.assertRegex(name, r"^(_|_?[A-Za-z][A-Za-z0-9_]*)$", where)
                self.assertFalse(hasattr(builtins, name), where)
                self.assertNotIn(name, BARRED_NAMES, where)
            for node in ast.walk(tree):
                if isinstance(node, ast.Name) and not isinstance(node.ctx, ast.Load):
                    self.assertNotIn(node.id, own, f"{stem}.py:{node.lineno}")
                if isinstance(node, ast.arg):
                    self.assertNotIn(node.arg, own, f"{stem}.py:{node.lineno}")

    def test_builtins(self):
        decorators = [item for _, node in nodes(ast.FunctionDef) for item in node.decorator_list]
        for where, node in nodes(ast.Name):
            if hasattr(builtins, node.id) and node not in decorators:
                self.assertIn(node.id, BUILTINS, where)

    def test_methods(self):
        own = {node.name for _, node in nodes(ast.FunctionDef)}
        for where, node in nodes(ast.Call):
            if isinstance(node.func, ast.Attribute):
                self.assertIn(node.func.attr, METHODS | own, where)


if __name__ == "__main__":
    unittest.main()
