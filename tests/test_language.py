"""Rules of the language subset that can be seen by looking at the files of the package."""

import ast
import builtins
import pathlib
import re
import unittest

PACKAGE = pathlib.Path(__file__).resolve().parent.parent / "wakesayings"
FILES = sorted(PACKAGE.rglob("*.py"))
TREES = {path: ast.parse(path.read_text("ascii")) for path in FILES}

BUILTINS = set("""len range enumerate zip min max sum abs sorted reversed int str bool bytes list tuple dict set frozenset
    isinstance ord repr any all divmod pow getattr hasattr setattr iter next map Exception ValueError TypeError KeyError
    IndexError LookupError ZeroDivisionError ArithmeticError OverflowError RuntimeError NotImplementedError
    AttributeError StopIteration NotImplemented super type property staticmethod classmethod""".split())
LIBRARY = {
    "heapq": {"heappush", "heappop", "heapify", "heapreplace", "heappushpop"},
    "math": {"gcd", "lcm", "isqrt", "comb", "perm", "factorial"},
    "itertools": {"product", "combinations", "permutations", "chain", "accumulate", "pairwise", "islice", "zip_longest"},
    "collections": {"defaultdict", "deque"},
}
DUNDERS = set("""init eq repr str len enter exit call iter lt le gt ge ne add sub mul floordiv mod pow and or xor lshift
    rshift radd rsub rmul rfloordiv rmod rand ror rxor rlshift rrshift iadd isub imul ifloordiv imod ipow iand ior ixor
    ilshift irshift neg pos invert abs bool contains getitem setitem""".split())
METHODS = set("""append clear copy count endswith extend find get index insert isalnum isalpha isdigit islower isspace
    isupper items join keys ljust lower lstrip partition pop remove replace reverse rfind rjust rpartition rsplit rstrip
    setdefault split splitlines startswith strip update upper values zfill bit_length title capitalize swapcase casefold
    center expandtabs removeprefix removesuffix rindex isascii isdecimal isnumeric istitle isidentifier isprintable
    add discard sort from_iterable appendleft popleft extendleft rotate""".split())
NOT_USED = set("""register mro elements open input law version_info with_traceback add_note eval exec exit globals locals
    vars dir id help compile gc os sys importlib delattr breakpoint quit typing enum Enum abstractmethod namedtuple
    dataclass overload contextmanager Generic Protocol ABC""".split())
BARRED_NODES = (ast.AsyncFunctionDef, ast.AsyncFor, ast.AsyncWith, ast.Await, ast.Import, ast.Div, ast.Global)


def nodes(kind):
    for path, tree in TREES.items():
        for node in ast.walk(tree):
            if isinstance(node, kind):
                yield f"{path.name}:{getattr(node, 'lineno', 0)}", node


def docstrings(tree):
    kinds = (ast.Module, ast.ClassDef, ast.FunctionDef)
    return [node.body[0].value for node in ast.walk(tree) if isinstance(node, kinds) and ast.get_docstring(node)]


def bound_names():
    for where, node in nodes((ast.Name, ast.arg, ast.FunctionDef, ast.ClassDef)):
        if isinstance(node, ast.Name) and not isinstance(node.ctx, ast.Load):
            yield where, node.id
        elif isinstance(node, ast.arg):
            yield where, node.arg
        elif isinstance(node, (ast.FunctionDef, ast.ClassDef)):
            yield where, node.name


class LanguageTest(unittest.TestCase):

    def test_files(self):
        for path in PACKAGE.rglob("*"):
            if "__pycache__" not in path.parts:
                self.assertEqual(path.suffix, ".py")
                self.assertRegex(path.name, r"\A(__init__|[a-z][a-z0-9_]*)\.py\Z")
        self.assertIn("__init__.py", [path.name for path in FILES])
        self.assertLessEqual(len(FILES), 100)

    def test_lines(self):
        for path in FILES:
            text = path.read_text("ascii")
            self.assertRegex(text, r"\A[\n -~]*\Z", path.name)
            rows = text.split("\n")
            self.assertLessEqual(len(rows) - 1, 399, path.name)
            for number, row in enumerate(rows, 1):
                self.assertLessEqual(len(row), 120, f"{path.name}:{number}")

    def test_function_sizes(self):
        for where, node in nodes(ast.FunctionDef):
            first = min([node.lineno] + [row.lineno for row in node.decorator_list])
            self.assertLessEqual(node.end_lineno - first + 1, 40, where)

    def test_imports(self):
        for path, tree in TREES.items():
            began = False
            for node in tree.body:
                if isinstance(node, ast.ImportFrom):
                    self.assertFalse(began, f"{path.name}:{node.lineno}")
                    self.assert_import(f"{path.name}:{node.lineno}", node)
                elif not isinstance(node, ast.Expr):
                    began = True
        top = sum(isinstance(node, ast.ImportFrom) for tree in TREES.values() for node in tree.body)
        self.assertEqual(top, len(list(nodes(ast.ImportFrom))), "an import stands inside")

    def assert_import(self, where, node):
        self.assertEqual(node.level, 0, where)
        names = {row.name for row in node.names}
        self.assertEqual({row.asname for row in node.names}, {None}, where)
        if node.module in LIBRARY:
            self.assertLessEqual(names, LIBRARY[node.module], where)
            return
        self.assertTrue(node.module.startswith("wakesayings."), where)
        tree = TREES[PACKAGE / (node.module.split(".")[1] + ".py")]
        here = {row.name for row in tree.body if isinstance(row, (ast.FunctionDef, ast.ClassDef))}
        here |= {row.targets[0].id for row in tree.body if isinstance(row, ast.Assign)}
        self.assertLessEqual(names, here, where)

    def test_no_file_imports_itself_through_others(self):
        needs = {path.stem: {node.module.split(".")[1] for node in tree.body if isinstance(node, ast.ImportFrom)
                             and node.module.startswith("wakesayings.")} for path, tree in TREES.items()}
        while needs:
            free = [name for name, others in needs.items() if not others & set(needs)]
            self.assertTrue(free, needs)
            needs = {name: others for name, others in needs.items() if name not in free}

    def test_module_level(self):
        for path, tree in TREES.items():
            for node in tree.body:
                kinds = (ast.ImportFrom, ast.FunctionDef, ast.ClassDef, ast.Assign)
                is_docstring = isinstance(node, ast.Expr) and node is tree.body[0]
                self.assertTrue(is_docstring or isinstance(node, kinds), f"{path.name}:{node.lineno}")

    def test_each_name_bound_once(self):
        for path, tree in TREES.items():
            found = []
            for node in tree.body:
                if isinstance(node, ast.ImportFrom):
                    found += [row.name for row in node.names]
                elif isinstance(node, (ast.FunctionDef, ast.ClassDef)):
                    found.append(node.name)
                elif isinstance(node, ast.Assign):
                    found.append(node.targets[0].id)
            self.assertEqual(len(found), len(set(found)), path.name)

    def test_imports_are_used(self):
        for path, tree in TREES.items():
            read = {node.id for node in ast.walk(tree) if isinstance(node, ast.Name)}
            for node in tree.body:
                if isinstance(node, ast.ImportFrom):
                    self.assertLessEqual({row.name for row in node.names}, read, path.name)

    def test_no_imported_name_or_class_is_bound_inside(self):
        for path, tree in TREES.items():
            held = {row.name for node in tree.body if isinstance(node, ast.ImportFrom) for row in node.names}
            held |= {node.name for node in tree.body if isinstance(node, ast.ClassDef)}
            for node in ast.walk(tree):
                name = node.arg if isinstance(node, ast.arg) else None
                if isinstance(node, ast.Name) and not isinstance(node.ctx, ast.Load):
                    name = node.id
                self.assertNotIn(name, held, path.name)

    def test_builtins(self):
        # Doctest leaves a name _ among the builtins, which is none of them.
        known = set(dir(builtins)) - {"_"}
        for where, node in nodes(ast.Name):
            if isinstance(node.ctx, ast.Load) and node.id in known:
                self.assertIn(node.id, BUILTINS, where)
        for where, name in bound_names():
            if not name.startswith("__"):
                self.assertNotIn(name, known, where)

    def test_plain_names(self):
        for where, name in bound_names():
            self.assertNotIn(name, NOT_USED, where)
            if name.startswith("__"):
                self.assertIn(name, {f"__{word}__" for word in DUNDERS} | {"__slots__"}, where)
            else:
                self.assertRegex(name, r"\A(_|_?[A-Za-z][A-Za-z0-9_]*)\Z", where)
        for where, node in nodes(ast.Attribute):
            self.assertNotIn(node.attr, NOT_USED, where)
        for where, node in nodes(ast.Name):
            self.assertNotIn(node.id, NOT_USED, where)
            self.assertFalse(node.id == "_" and isinstance(node.ctx, ast.Load), where)

    def test_barred_statements(self):
        for where, node in nodes(BARRED_NODES):
            self.fail(f"{where} {type(node).__name__}")
        for where, node in nodes(ast.Constant):
            self.assertNotIsInstance(node.value, (float, complex), where)

    def test_strings(self):
        for path, tree in TREES.items():
            told = docstrings(tree)
            for node in ast.walk(tree):
                if isinstance(node, ast.Constant) and isinstance(node.value, str) and node not in told:
                    self.assertNotIn("%", node.value, path.name)
                    self.assertIsNone(re.search(r"\b(type|typing|enum|Enum)\b", node.value), path.name)

    def test_no_generator_expressions(self):
        # Front has an equality of its own, so what takes a row takes a list.
        for where, _ in nodes(ast.GeneratorExp):
            self.fail(where)

    def test_decorators(self):
        for where, node in nodes((ast.FunctionDef, ast.ClassDef)):
            told = [ast.unparse(row) for row in node.decorator_list]
            self.assertLessEqual(len(told), 1, where)
            for word in told:
                self.assertRegex(word, r"\A(property|staticmethod|classmethod|[a-z_]+\.setter)\Z", where)

    def test_own_methods_or_those_allowed(self):
        own = {node.name for _, node in nodes(ast.FunctionDef)}
        for where, node in nodes(ast.Call):
            if isinstance(node.func, ast.Attribute):
                self.assertIn(node.func.attr, own | METHODS, where)

    def test_classes_with_items_are_not_iterated(self):
        for where, node in nodes(ast.ClassDef):
            names = {row.name for row in node.body if isinstance(row, ast.FunctionDef)}
            self.assertTrue("__getitem__" not in names or "__iter__" in names, where)


if __name__ == "__main__":
    unittest.main()
