"""Rules of the language subset that can be seen by looking at the files of the package."""

import ast
import builtins
import pathlib
import re
import unittest

PACKAGE = pathlib.Path(__file__).resolve().parent.parent / "wakesayings"
FILES = sorted(PACKAGE.rglob("*.py"))
TREES = {path: ast.parse(path.read_text("ascii")) for path in FILES}

BUILTINS = set("""len range enumerate zip min max sum abs sorted reversed int str bool bytes list tuple dict set frozenset
    isinstance ord repr any all divmod pow getattr hasattr setattr iter next map Exception ValueError TypeError KeyError
    IndexError LookupError ZeroDivisionError ArithmeticError OverflowError RuntimeError NotImplementedError
    AttributeError StopIteration NotImplemented super type property staticmethod classmethod""".split())
LIBRARY = {
    "heapq": {"heappush", "heappop", "heapify", "heapreplace", "heappushpop"},
    "math": {"gcd", "lcm", "isqrt", "comb", "perm", "factorial"},
    "itertools": {"product", "combinations", "permutations", "chain", "accumulate", "pairwise", "islice", "zip_longest"},
    "collections": {"defaultdict", "deque"},
}
DUNDERS = set("""init eq repr str len enter exit call iter lt le gt ge ne add sub mul floordiv mod pow and or xor lshift
    rshift radd rsub rmul rfloordiv rmod rand ror rxor rlshift rrshift iadd isub imul ifloordiv imod ipow iand ior ixor
    ilshift irshift neg pos invert abs bool contains getitem setitem""".split())
METHODS = set("""append clear copy count endswith extend find get index insert isalnum isalpha isdigit islower isspace
    isupper items join keys ljust lower lstrip partition pop remove replace reverse rfind rjust rpartition rsplit rstrip
    setdefault split splitlines startswith strip update upper values zfill bit_length title capitalize swapcase casefold
    center expandtabs removeprefix removesuffix rindex isascii isdecimal isnumeric istitle isidentifier isprintable
    add discard sort from_iterable appendleft popleft extendleft rotate""".split())
NOT_USED = set("""register mro elements open input law version_info with_traceback add_note eval exec exit globals locals
    vars dir id help compile gc os sys importlib delattr breakpoint quit typing enum Enum abstractmethod namedtuple
    dataclass overload contextmanager Generic Protocol ABC""".split())
BARRED_NODES = (ast.AsyncFunctionDef, ast.AsyncFor, ast.AsyncWith, ast.Await, ast.Import, ast.Div, ast.Global)


# These classes change their own objects; nothing else changes what it did not create itself.
CHANGING = {"Maker", "Trial", "Steps", "WebReader", "Desk"}
CHANGES = {"append", "clear", "extend", "insert", "pop", "remove", "reverse", "setdefault", "update", "add", "discard",
           "sort"}


def nodes(kind):
    for path, tree in TREES.items():
        for node in ast.walk(tree):
            if isinstance(node, kind):
                yield f"{path.name}:{getattr(node, 'lineno', 0)}", node


def docstrings(tree):
    kinds = (ast.Module, ast.ClassDef, ast.FunctionDef)
    return [node.body[0].value for node in ast.walk(tree) if isinstance(node, kinds) and ast.get_docstring(node)]


def bound_names():
    for where, node in nodes((ast.Name, ast.arg, ast.FunctionDef, ast.ClassDef)):
        if isinstance(node, ast.Name) and not isinstance(node.ctx, ast.Load):
            yield where, node.id
        elif isinstance(node, ast.arg):
            yield where, node.arg
        elif isinstance(node, (ast.FunctionDef, ast.ClassDef)):
            yield where, node.name


def functions():
    """Rows (where, class or None, function)."""
    for path, tree in TREES.items():
        for node in tree.body:
            if isinstance(node, ast.FunctionDef):
                yield f"{path.name}:{node.lineno}", None, node
            elif isinstance(node, ast.ClassDef):
                for row in node.body:
                    if isinstance(row, ast.FunctionDef):
                        yield f"{path.name}:{row.lineno}", node.name, row


def root_of(node):
    """The innermost part of what attributes and items are read off, also through setdefault."""
    while isinstance(node, (ast.Attribute, ast.Subscript, ast.Call)):
        node = node.func if isinstance(node, ast.Call) else node.value
    return node


def plain_targets(node):
    """The single targets of a target."""
    if isinstance(node, (ast.Tuple, ast.List)):
        return [single for part in node.elts for single in plain_targets(part)]
    return [node.value] if isinstance(node, ast.Starred) else [node]


def targets_of(node):
    """The targets of a statement that assigns or removes."""
    told = node.targets if isinstance(node, (ast.Assign, ast.Delete)) else [node.target]
    return [single for part in told for single in plain_targets(part)]


def creates(node):
    """Whether a value is surely a list, dict or set that was created on the spot."""
    if isinstance(node, (ast.List, ast.Dict, ast.Set, ast.ListComp, ast.DictComp, ast.SetComp)):
        return True
    return isinstance(node, ast.Call) and isinstance(node.func, ast.Name) and node.func.id in (
        "list", "dict", "set", "sorted")


def created_names(function):
    """The local names that are only ever assigned what was created on the spot, and those of own new objects."""
    given = {row.arg for row in ast.walk(function.args) if isinstance(row, ast.arg)}
    values = {}
    for node in ast.walk(function):
        if isinstance(node, ast.Assign):
            for target in node.targets:
                if isinstance(target, ast.Name):
                    values.setdefault(target.id, []).append(node.value)
                else:
                    for single in plain_targets(target):
                        values.setdefault(getattr(single, "id", None), []).append(None)
        elif isinstance(node, (ast.For, ast.comprehension)):
            for single in plain_targets(node.target):
                values.setdefault(getattr(single, "id", None), []).append(None)
    built = {name for name, rows in values.items() if name not in given and all(creates(row) for row in rows)}
    objects = {name for name, rows in values.items() if name not in given and all(
        isinstance(row, ast.Call) and getattr(row.func, "id", "")[:1].isupper() for row in rows)}
    return built, objects


def changed_things(function):
    """What a function changes: the nodes whose items or attributes it assigns, removes or has changed by a method."""
    for node in ast.walk(function):
        if isinstance(node, (ast.Assign, ast.AugAssign, ast.Delete)):
            yield from [row for row in targets_of(node) if not isinstance(row, ast.Name)]
        elif isinstance(node, ast.Call) and isinstance(node.func, ast.Attribute) and node.func.attr in CHANGES:
            yield node.func


def is_property(function):
    return any(isinstance(row, ast.Name) and row.id == "property" for row in function.decorator_list)


class LanguageTest(unittest.TestCase):

    def test_files(self):
        for path in PACKAGE.rglob("*"):
            if "__pycache__" not in path.parts:
                self.assertEqual(path.suffix, ".py")
                self.assertRegex(path.name, r"\A(__init__|[a-z][a-z0-9_]*)\.py\Z")
        self.assertIn("__init__.py", [path.name for path in FILES])
        self.assertLessEqual(len(FILES), 100)

    def test_lines(self):
        for path in FILES:
            text = path.read_text("ascii")
            self.assertRegex(text, r"\A[\n -~]*\Z", path.name)
            rows = text.split("\n")
            self.assertLessEqual(len(rows) - 1, 399, path.name)
            for number, row in enumerate(rows, 1):
                self.assertLessEqual(len(row), 120, f"{path.name}:{number}")

    def test_function_sizes(self):
        for where, node in nodes(ast.FunctionDef):
            first = min([node.lineno] + [row.lineno for row in node.decorator_list])
            self.assertLessEqual(node.end_lineno - first + 1, 40, where)

    def test_imports(self):
        for path, tree in TREES.items():
            began = False
            for node in tree.body:
                if isinstance(node, ast.ImportFrom):
                    self.assertFalse(began, f"{path.name}:{node.lineno}")
                    self.assert_import(f"{path.name}:{node.lineno}", node)
                elif not isinstance(node, ast.Expr):
                    began = True
        top = sum(isinstance(node, ast.ImportFrom) for tree in TREES.values() for node in tree.body)
        self.assertEqual(top, len(list(nodes(ast.ImportFrom))), "an import stands inside")

    def assert_import(self, where, node):
        self.assertEqual(node.level, 0, where)
        names = {row.name for row in node.names}
        self.assertEqual({row.asname for row in node.names}, {None}, where)
        if node.module in LIBRARY:
            self.assertLessEqual(names, LIBRARY[node.module], where)
            return
        self.assertTrue(node.module.startswith("wakesayings."), where)
        tree = TREES[PACKAGE / (node.module.split(".")[1] + ".py")]
        here = {row.name for row in tree.body if isinstance(row, (ast.FunctionDef, ast.ClassDef))}
        here |= {row.targets[0].id for row in tree.body if isinstance(row, ast.Assign)}
        self.assertLessEqual(names, here, where)

    def test_no_file_imports_itself_through_others(self):
        needs = {path.stem: {node.module.split(".")[1] for node in tree.body if isinstance(node, ast.ImportFrom)
                             and node.module.startswith("wakesayings.")} for path, tree in TREES.items()}
        while needs:
            free = [name for name, others in needs.items() if not others & set(needs)]
            self.assertTrue(free, needs)
            needs = {name: others for name, others in needs.items() if name not in free}

    def test_module_level(self):
        for path, tree in TREES.items():
            for node in tree.body:
                kinds = (ast.ImportFrom, ast.FunctionDef, ast.ClassDef, ast.Assign)
                is_docstring = isinstance(node, ast.Expr) and node is tree.body[0]
                self.assertTrue(is_docstring or isinstance(node, kinds), f"{path.name}:{node.lineno}")

    def test_each_name_bound_once(self):
        for path, tree in TREES.items():
            found = []
            for node in tree.body:
                if isinstance(node, ast.ImportFrom):
                    found += [row.name for row in node.names]
                elif isinstance(node, (ast.FunctionDef, ast.ClassDef)):
                    found.append(node.name)
                elif isinstance(node, ast.Assign):
                    found.append(node.targets[0].id)
            self.assertEqual(len(found), len(set(found)), path.name)

    def test_imports_are_used(self):
        for path, tree in TREES.items():
            read = {node.id for node in ast.walk(tree) if isinstance(node, ast.Name)}
            for node in tree.body:
                if isinstance(node, ast.ImportFrom):
                    self.assertLessEqual({row.name for row in node.names}, read, path.name)

    def test_no_imported_name_or_class_is_bound_inside(self):
        for path, tree in TREES.items():
            held = {row.name for node in tree.body if isinstance(node, ast.ImportFrom) for row in node.names}
            held |= {node.name for node in tree.body if isinstance(node, ast.ClassDef)}
            for node in ast.walk(tree):
                name = node.arg if isinstance(node, ast.arg) else None
                if isinstance(node, ast.Name) and not isinstance(node.ctx, ast.Load):
                    name = node.id
                self.assertNotIn(name, held, path.name)

    def test_builtins(self):
        # Doctest leaves a name _ among the builtins, which is none of them.
        known = set(dir(builtins)) - {"_"}
        for where, node in nodes(ast.Name):
            if isinstance(node.ctx, ast.Load) and node.id in known:
                self.assertIn(node.id, BUILTINS, where)
        for where, name in bound_names():
            if not name.startswith("__"):
                self.assertNotIn(name, known, where)

    def test_plain_names(self):
        for where, name in bound_names():
            self.assertNotIn(name, NOT_USED, where)
            if name.startswith("__"):
                self.assertIn(name, {f"__{word}__" for word in DUNDERS} | {"__slots__"}, where)
            else:
                self.assertRegex(name, r"\A(_|_?[A-Za-z][A-Za-z0-9_]*)\Z", where)
        for where, node in nodes(ast.Attribute):
            self.assertNotIn(node.attr, NOT_USED, where)
        for where, node in nodes(ast.Name):
            self.assertNotIn(node.id, NOT_USED, where)
            self.assertFalse(node.id == "_" and isinstance(node.ctx, ast.Load), where)

    def test_barred_statements(self):
        for where, node in nodes(BARRED_NODES):
            self.fail(f"{where} {type(node).__name__}")
        for where, node in nodes(ast.Constant):
            self.assertNotIsInstance(node.value, (float, complex), where)

    def test_strings(self):
        for path, tree in TREES.items():
            told = docstrings(tree)
            for node in ast.walk(tree):
                if isinstance(node, ast.Constant) and isinstance(node.value, str) and node not in told:
                    self.assertNotIn("%", node.value, path.name)
                    self.assertIsNone(re.search(r"\b(type|typing|enum|Enum)\b", node.value), path.name)

    def test_no_generator_expressions(self):
        # Front has an equality of its own, so what takes a row takes a list.
        for where, _ in nodes(ast.GeneratorExp):
            self.fail(where)

    def test_decorators(self):
        for where, node in nodes((ast.FunctionDef, ast.ClassDef)):
            told = [ast.unparse(row) for row in node.decorator_list]
            self.assertLessEqual(len(told), 1, where)
            for word in told:
                self.assertRegex(word, r"\A(property|staticmethod|classmethod|[a-z_]+\.setter)\Z", where)

    def test_own_methods_or_those_allowed(self):
        own = {node.name for _, node in nodes(ast.FunctionDef)}
        for where, node in nodes(ast.Call):
            if isinstance(node.func, ast.Attribute):
                self.assertIn(node.func.attr, own | METHODS, where)

    def test_classes_with_items_are_not_iterated(self):
        for where, node in nodes(ast.ClassDef):
            names = {row.name for row in node.body if isinstance(row, ast.FunctionDef)}
            self.assertTrue("__getitem__" not in names or "__iter__" in names, where)

    def test_nothing_changes_what_it_did_not_create(self):
        for where, owner, function in functions():
            built, objects = created_names(function)
            for node in changed_things(function):
                root = root_of(node)
                self.assertIsInstance(root, ast.Name, where)
                is_attribute = isinstance(node, ast.Attribute) and isinstance(node.ctx, ast.Store)
                if owner in CHANGING and not is_property(function) and root.id in ("self", "maker", "other"):
                    continue
                if is_attribute and root.id == "self" and function.name == "__init__":
                    continue
                self.assertIn(root.id, objects if is_attribute else built, f"{where}:{node.lineno}")

    def test_operators_and_properties_change_nothing(self):
        rows = {}
        for _, owner, function in functions():
            if is_setter(function):
                continue
            names = {node.attr for node in ast.walk(function) if isinstance(node, ast.Attribute)}
            names |= {node.id for node in ast.walk(function) if isinstance(node, ast.Name)}
            rows.setdefault(function.name, []).append((owner, function, names))
            if function.name == "__init__":
                rows.setdefault(owner, []).append((owner, function, names))
        quiet = ("__init__", "__enter__", "__exit__", "__call__", "__setitem__", "__iter__")
        waiting = [function.name for _, _, function in functions() if is_property(function) or (
            function.name.startswith("__") and function.name not in quiet)]
        seen = set()
        while waiting:
            name = waiting.pop()
            if name in seen:
                continue
            seen.add(name)
            for owner, function, names in rows.get(name, []):
                if owner in CHANGING and function.name != "__init__":
                    changed = [node for node in changed_things(function) if root_of(node).id == "self"]
                    self.assertFalse(changed, f"{owner}.{function.name}")
                waiting.extend(names & set(rows))
        self.assertIn("numbered", seen)
        self.assertNotIn("Steps", seen)

    def test_only_integers_are_added_in_place(self):
        for where, node in nodes(ast.AugAssign):
            self.assertIsInstance(node.op, (ast.Add, ast.Sub), where)
            self.assertIsInstance(node.target, ast.Name, where)
            self.assertIsInstance(getattr(node.value, "value", None), int, where)

    def test_loops_do_not_change_what_they_go_over(self):
        for where, loop in nodes(ast.For):
            over = loop.iter
            while isinstance(over, ast.Call) and over.args and getattr(over.func, "id", "") in ("enumerate", "zip"):
                over = over.args[0]
            if isinstance(over, ast.Call) and isinstance(over.func, ast.Attribute) and over.func.attr in (
                    "items", "values"):
                over = over.func.value
            if not isinstance(over, (ast.Name, ast.Attribute, ast.Subscript)):
                continue
            for node in changed_things(loop):
                self.assertNotEqual(ast.unparse(root_of(node)), ast.unparse(over), where)
                self.assertFalse(ast.unparse(node).startswith(ast.unparse(over)), where)

    def test_is_and_raise(self):
        for where, node in nodes(ast.Compare):
            for sign, value in zip(node.ops, node.comparators):
                if isinstance(sign, (ast.Is, ast.IsNot)):
                    self.assertIn(getattr(value, "value", 0), (None, True, False), where)
        for where, node in nodes(ast.Raise):
            self.assertIsInstance(node.exc, ast.Call, where)
            self.assertRegex(node.exc.func.id, r"\A[A-Z]", where)

    def test_sorting_and_turning_round(self):
        for where, node in nodes(ast.Call):
            name = getattr(node.func, "id", "")
            self.assertNotEqual(getattr(node.func, "attr", ""), "sort", where)
            if name == "reversed":
                self.assertIn(getattr(getattr(node.args[0], "func", None), "id", ""), ("list", "range"), where)

    def test_generators_are_not_called_inside(self):
        told = {function.name for _, _, function in functions()
                if any(isinstance(node, (ast.Yield, ast.YieldFrom)) for node in ast.walk(function))}
        self.assertEqual(told, {"each_round", "each_reached", "choices"})
        # Each is called at the head of a loop only.
        heads = [node.iter.func for _, node in nodes(ast.For) if isinstance(node.iter, ast.Call)]
        for where, node in nodes((ast.Name, ast.Attribute)):
            if node not in heads:
                self.assertNotIn(getattr(node, "id", getattr(node, "attr", None)), told, where)

    def test_lengths(self):
        for where, owner, function in functions():
            if function.name == "__len__":
                for node in ast.walk(function):
                    if isinstance(node, ast.Return):
                        self.assertEqual(node.value.func.id, "len", where)

    def test_what_items_bar(self):
        for path in FILES:
            self.assertIsNone(re.search(r"\(type\)|Meta|metaclass=", path.read_text("ascii")), path.name)
        for where, name in bound_names():
            self.assertNotEqual(name, "keys", where)
        for where, node in nodes(ast.Attribute):
            if node.attr == "keys":
                self.assertIsInstance(node.ctx, ast.Load, where)

    def test_methods_and_attributes_have_other_names(self):
        for path, tree in TREES.items():
            for node in tree.body:
                if isinstance(node, ast.ClassDef):
                    methods = [row.name for row in node.body if isinstance(row, ast.FunctionDef) and not is_setter(row)]
                    self.assertEqual(len(methods), len(set(methods)), node.name)
                    held = {row.attr for row in ast.walk(node) if isinstance(row, ast.Attribute)
                            and isinstance(row.ctx, ast.Store)}
                    self.assertFalse(held & set(methods), node.name)

    def test_interface_stands_in_its_files(self):
        for name, told in INTERFACE.items():
            tree = TREES[PACKAGE / f"{name}.py"]
            here = {node.name: node for node in tree.body if isinstance(node, (ast.FunctionDef, ast.ClassDef))}
            for row in told.split():
                kind, _, methods = row.partition(":")
                self.assertIn(kind, here, name)
                if methods:
                    own = {node.name for node in here[kind].body if isinstance(node, ast.FunctionDef)}
                    own |= {node.targets[0].id for node in here[kind].body if isinstance(node, ast.Assign)}
                    self.assertLessEqual(set(methods.split(",")), own, kind)


def is_setter(function):
    return any(isinstance(row, ast.Attribute) and row.attr == "setter" for row in function.decorator_list)


INTERFACE = {
    "words": "is_letter is_word beginnings in_order joined text_of_word read_word",
    "fronts": """Front:LONGEST,full,words,letters,longest,__contains__,__len__,__floordiv__,__or__,__and__,cut,lifted,is_within,is_before,__eq__,__repr__""",
    "sayings": """Saying:MOST,triggers,makes,letters,make_letters,trigger_front,make_front,with_triggers,with_makes,__eq__,__repr__""",
    "books": """Book:MOST_SAYINGS,MOST_LETTERS,sayings,__getitem__,__len__,__contains__,__add__,__or__,without,kept,exchanged,letters,make_letters,full_front,__eq__,__repr__""",
    "webs": """is_term
        Web:MOST_KNOTS,of,things,knots,__len__,__contains__,__getitem__,same,walked,leads,letters_at,front_at,pairs,is_tree,__add__,with_pair,united,__eq__,__repr__""",
    "making": """can_make is_new after_instance instances new_instances after_round each_round end_of rounds_of
        sure_instances""",
    "makers": """Maker:book,web,at_rest,many,make,do_round,finish,tell,join,set_book,undo,fresh,copy,__eq__
        Trial:__enter__,__exit__ tried""",
    "coming": "coming_front comes behind_letter reached_fronts each_reached",
    "lines": "is_line wrong_line derivation_of is_derivation",
    "tables": "table_of is_table table_without shows",
    "ending": "ends ranked_table is_ranked lasso_of is_lasso front_size front_depth",
    "singles": """standing_at new_leads goes_on web_size web_depth ever_there rest_paper run_paper is_rest_paper
        is_run_paper""",
    "finding": """finds_all first_missed alike finding_paper is_finding_paper missing_paper is_missing_paper needless
        least_sets""",
    "offers": "Offers:__init__,book,row,choices,__len__,__contains__,price,chosen",
    "wishes": "Wish:__init__,must_end,goals,__call__,__eq__ cheapest fault is_fault",
    "texts": "text_of read_book read_web text_of_term read_term",
    "judge": "is_claim paper_of is_paper",
    "desk": """Desk:__getitem__,__setitem__,put,drop,names,__contains__,__len__,changes,undo,do,do_all,copy,attempt,tried_by""",
}


if __name__ == "__main__":
    unittest.main()
