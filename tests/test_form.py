"""The rules about the form of the code (LANGUAGE.md) that a program can check; the others are for the reader."""

import ast
import builtins
import pathlib
import re
import unittest

FOLDER = pathlib.Path(__file__).resolve().parent.parent / "whatpasses"
FILES = sorted(FOLDER.rglob("*.py"))
TREES = {path: ast.parse(path.read_text()) for path in FILES}

STATEMENTS = (
    ast.Assign, ast.AugAssign, ast.AnnAssign, ast.If, ast.While, ast.For, ast.Return, ast.Break, ast.Continue, ast.Pass,
    ast.Raise, ast.Assert, ast.Delete, ast.Nonlocal, ast.Match, ast.With, ast.Try, ast.Expr, ast.FunctionDef,
    ast.ClassDef, ast.ImportFrom,
)
BUILTINS = set(
    "len range enumerate zip min max sum abs sorted reversed int str bool bytes list tuple dict set frozenset isinstance "
    "ord repr any all divmod pow getattr hasattr setattr iter next map Exception ValueError TypeError KeyError "
    "IndexError LookupError ZeroDivisionError ArithmeticError OverflowError RuntimeError NotImplementedError "
    "AttributeError StopIteration NotImplemented property staticmethod classmethod super".split()
)
METHODS = set(
    "append clear copy count endswith extend find get index insert isalnum isalpha isdigit islower isspace isupper items "
    "join keys ljust lower lstrip partition pop remove replace reverse rfind rjust rpartition rsplit rstrip setdefault "
    "split splitlines startswith strip update upper values zfill bit_length sort title capitalize swapcase casefold "
    "center expandtabs removeprefix removesuffix rindex isascii isdecimal isnumeric istitle isidentifier isprintable "
    "add discard".split()
)
LIBRARY = {
    "heapq": "heappush heappop heapify heapreplace heappushpop", "math": "gcd lcm isqrt comb perm factorial",
    "itertools": "product combinations permutations chain accumulate pairwise islice zip_longest",
    "collections": "defaultdict", "__future__": "annotations",
}
NEVER = re.compile(r"\b(register|mro|elements|open|input|law|version_info|with_traceback|add_note)\b")
BARRED = re.compile(
    r"\b(typing|typing_extensions|enum|Enum|IntEnum|StrEnum|Flag|IntFlag|Generic|Protocol|ABC|ABCMeta|namedtuple"
    r"|NamedTuple|TypedDict|TYPE_CHECKING|abstractmethod|_wall|_WallAttr)\b|dataclass|overload|contextmanager"
)
DUNDERS = set(
    "init eq repr str len enter exit call iter lt le gt ge ne add sub mul floordiv mod pow and or xor lshift rshift neg "
    "pos invert abs bool contains getitem setitem".split()
)


def nodes(kinds):
    """Each node of one of these kinds, with where it stands."""
    for path, tree in TREES.items():
        for node in ast.walk(tree):
            if isinstance(node, kinds):
                yield node, f"{path.name}:{getattr(node, 'lineno', 0)}"


def defined_at_module_level(path):
    names = set()
    for node in TREES[path].body:
        if isinstance(node, (ast.FunctionDef, ast.ClassDef)):
            names.add(node.name)
        elif isinstance(node, ast.Assign):
            names.update(target.id for target in node.targets)
    return names


class Files(unittest.TestCase):
    def test_the_folder_contains_nothing_else(self):
        for path in FOLDER.rglob("*"):
            # What Python writes there by itself is not in the repository.
            if "__pycache__" not in path.parts:
                self.assertTrue(path.is_dir() or path.suffix == ".py", path)
                self.assertRegex(path.stem, r"\A([a-z][a-z0-9_]*|__init__|__main__)\Z")
        self.assertIn(FOLDER / "__init__.py", FILES)

    def test_characters_and_sizes(self):
        for path in FILES:
            text = path.read_text(encoding="utf-8")
            self.assertRegex(text, r"\A[ -~\n]*\Z", path)
            lines = text.split("\n")
            self.assertLessEqual(len(lines), 399, path)
            for at, line in enumerate(lines):
                self.assertLessEqual(len(line), 120, f"{path.name}:{at + 1}")

    def test_functions_are_short(self):
        for node, place in nodes((ast.FunctionDef, ast.Lambda)):
            self.assertLessEqual(node.end_lineno - node.lineno + 1, 40, place)

    def test_words_that_are_not_used(self):
        for path in FILES:
            self.assertIsNone(BARRED.search(path.read_text()), path)
        for node, place in nodes((ast.Name, ast.Attribute, ast.arg, ast.keyword, ast.FunctionDef, ast.ClassDef)):
            for field in ("id", "attr", "arg", "name"):
                self.assertIsNone(NEVER.fullmatch(getattr(node, field, None) or ""), place)


class Modules(unittest.TestCase):
    def test_imports(self):
        for node, place in nodes((ast.Import, ast.ImportFrom)):
            self.assertIsInstance(node, ast.ImportFrom, place)
            self.assertEqual(node.level, 0, place)
            for alias in node.names:
                if node.module in LIBRARY:
                    self.assertIn(alias.name, LIBRARY[node.module].split(), place)
                    continue
                package, _, module = node.module.partition(".")
                self.assertEqual(package, "whatpasses", place)
                self.assertIn(alias.name, defined_at_module_level(FOLDER / (module + ".py")), place)

    def test_each_import_is_used(self):
        for path, tree in TREES.items():
            used = {node.id for node in ast.walk(tree) if isinstance(node, ast.Name)}
            for node in tree.body:
                if isinstance(node, ast.ImportFrom):
                    for alias in node.names:
                        self.assertIn(alias.asname or alias.name, used, path)

    def test_no_circle_of_imports(self):
        needs = {path.stem: {node.module.partition(".")[2] for node in tree.body if isinstance(node, ast.ImportFrom)
                             and node.module.startswith("whatpasses.")} for path, tree in TREES.items()}
        while needs:
            ready = [name for name, modules in needs.items() if not modules & set(needs)]
            self.assertNotEqual(ready, [], sorted(needs))
            for name in ready:
                del needs[name]

    def test_what_stands_at_module_level(self):
        for path, tree in TREES.items():
            for at, node in enumerate(tree.body):
                docstring = at == 0 and isinstance(node, ast.Expr) and isinstance(node.value, ast.Constant)
                allowed = isinstance(node, (ast.ImportFrom, ast.FunctionDef, ast.ClassDef, ast.Assign))
                self.assertTrue(docstring or allowed, f"{path.name}:{node.lineno}")
                if isinstance(node, ast.Assign):
                    self.assertEqual(len(node.targets), 1)
                    self.assertIsInstance(node.targets[0], ast.Name)
                    plain = (ast.Constant, ast.Tuple, ast.List, ast.Dict, ast.Load, ast.UnaryOp, ast.USub)
                    for inner in ast.walk(node.value):
                        self.assertIsInstance(inner, plain, f"{path.name}:{node.lineno}")

    def test_one_binding_for_each_name(self):
        for path, tree in TREES.items():
            bound = []
            for node in tree.body:
                if isinstance(node, ast.ImportFrom):
                    bound += [alias.asname or alias.name for alias in node.names]
                elif isinstance(node, ast.Assign):
                    bound += [target.id for target in node.targets]
                elif isinstance(node, (ast.FunctionDef, ast.ClassDef)):
                    bound.append(node.name)
            self.assertEqual(len(bound), len(set(bound)), path)
            taken = {node.name for node in tree.body if isinstance(node, ast.ClassDef)}
            taken |= {alias.asname or alias.name for node in tree.body if isinstance(node, ast.ImportFrom)
                      for alias in node.names}
            local = {node.arg for node in ast.walk(tree) if isinstance(node, ast.arg)}
            local |= {node.id for node in ast.walk(tree) if isinstance(node, ast.Name)
                      and isinstance(node.ctx, ast.Store)}
            self.assertEqual(taken & local, set(), path)


class Code(unittest.TestCase):
    def test_statements(self):
        for node, place in nodes(ast.stmt):
            self.assertIsInstance(node, STATEMENTS, place)

    def test_docstrings(self):
        for path, tree in TREES.items():
            self.assertIsNotNone(ast.get_docstring(tree), path)

    def test_builtins(self):
        known = set(dir(builtins))
        for node, place in nodes(ast.Name):
            if node.id in known:
                self.assertIn(node.id, BUILTINS, place)
                self.assertIsInstance(node.ctx, ast.Load, place)
        for node, place in nodes(ast.arg):
            self.assertNotIn(node.arg, known, place)
        for path in FILES:
            self.assertEqual(defined_at_module_level(path) & known, set())

    def test_methods_are_own_ones_or_allowed_ones(self):
        own = {node.name for node, _ in nodes(ast.FunctionDef)}
        for node, place in nodes(ast.Call):
            if isinstance(node.func, ast.Attribute):
                self.assertIn(node.func.attr, own | METHODS | {"__init__"}, place)

    def test_attributes_that_are_read_are_assigned(self):
        own = {node.name for node, _ in nodes((ast.FunctionDef, ast.ClassDef))}
        assigned = {node.attr for node, _ in nodes(ast.Attribute) if isinstance(node.ctx, ast.Store)}
        for node, place in nodes(ast.Attribute):
            self.assertIn(node.attr, own | assigned | METHODS, place)

    def test_decorators_and_double_underscores(self):
        for node, place in nodes(ast.FunctionDef):
            for decorator in node.decorator_list:
                word = decorator.attr if isinstance(decorator, ast.Attribute) else decorator.id
                self.assertIn(word, ("property", "setter", "staticmethod", "classmethod"), place)
            if node.name.startswith("__"):
                bare = node.name[2:-2]
                plain = bare[1:] if bare[:1] in ("r", "i") and bare[1:] in DUNDERS else bare
                self.assertIn(plain, DUNDERS, place)
        for node, place in nodes(ast.ClassDef):
            self.assertEqual(node.decorator_list, [], place)
            self.assertEqual(node.keywords, [], place)

    def test_numbers_and_strings(self):
        for node, place in nodes(ast.Constant):
            self.assertNotIsInstance(node.value, (float, complex), place)
            if isinstance(node.value, str):
                self.assertNotIn("%", node.value, place)
        for node, place in nodes((ast.BinOp, ast.AugAssign)):
            self.assertNotIsInstance(node.op, (ast.Div, ast.MatMult), place)

    def test_is_stands_beside_none_and_truth_values(self):
        for node, place in nodes(ast.Compare):
            for sign, side in zip(node.ops, node.comparators):
                if isinstance(sign, (ast.Is, ast.IsNot)):
                    self.assertIsInstance(side, ast.Constant, place)

    def test_stars_in_calls(self):
        plain = (ast.Name, ast.Attribute, ast.Constant, ast.List, ast.Tuple, ast.Dict, ast.Load)
        for node, place in nodes(ast.Call):
            for star in node.args:
                for inner in ast.walk(star.value) if isinstance(star, ast.Starred) else []:
                    self.assertIsInstance(inner, plain, place)

    def test_generator_expressions(self):
        self.assertEqual([place for _, place in nodes(ast.GeneratorExp)], [])

    def test_sets_stand_where_they_may(self):
        for node, place in nodes((ast.Assign, ast.Return)):
            value = node.value
            made = isinstance(value, (ast.Set, ast.SetComp))
            made = made or isinstance(value, ast.Call) and getattr(value.func, "id", "") == "set"
            self.assertFalse(made, place)

    def test_keywords_of_builtins(self):
        allowed = {"sorted": {"key", "reverse"}, "min": {"key", "default"}, "max": {"key", "default"}, "sum": {"start"},
                   "enumerate": {"start"}, "zip": {"strict"}}
        for node, place in nodes(ast.Call):
            if isinstance(node.func, ast.Name) and node.func.id in BUILTINS:
                self.assertLessEqual({keyword.arg for keyword in node.keywords}, allowed.get(node.func.id, set()), place)

    def test_raises_create_their_errors(self):
        for node, place in nodes(ast.Raise):
            self.assertTrue(node.exc is None or isinstance(node.exc, ast.Call) and isinstance(node.exc.func, ast.Name), place)

    def test_no_async_no_global(self):
        kinds = (ast.Global, ast.AsyncFunctionDef, ast.AsyncFor, ast.AsyncWith, ast.Await)
        self.assertEqual(list(nodes(kinds)), [])


class Members(unittest.TestCase):
    """Methods, properties and attributes do not share names where that is barred."""

    def setUp(self):
        self.plain, self.decorated, self.attributes, self.places = set(), set(), set(), []
        for node, place in nodes(ast.ClassDef):
            methods = [inner for inner in node.body if isinstance(inner, ast.FunctionDef)]
            names = {method.name for method in methods}
            self.assertEqual(len(names), len(methods), place)
            for method in methods:
                (self.decorated if method.decorator_list else self.plain).add(method.name)
            own = {inner.attr for inner in ast.walk(node) if isinstance(inner, ast.Attribute)
                   and isinstance(inner.ctx, ast.Store)}
            self.attributes |= own
            self.assertEqual(names & own, set(), place)

    def test_decorated_methods(self):
        self.assertEqual(self.decorated & self.plain, set())
        self.assertEqual(self.decorated & (self.attributes | METHODS), set())

    def test_attributes_are_no_methods_of_builtin_values(self):
        allowed = {"count", "index", "title", "find", "get", "join", "lower", "upper", "split", "strip", "copy", "add"}
        self.assertEqual(self.attributes & (METHODS - allowed), set())

    def test_classes_with_an_index_say_what_iteration_does(self):
        for node, place in nodes(ast.ClassDef):
            names = {inner.name for inner in node.body if isinstance(inner, ast.FunctionDef)}
            self.assertTrue("__getitem__" not in names or "__iter__" in names, place)


class Generators(unittest.TestCase):
    def test_generator_names_are_used_once(self):
        makers = [node.name for node, _ in nodes(ast.FunctionDef)
                  if any(isinstance(inner, (ast.Yield, ast.YieldFrom)) for inner in ast.walk(node))]
        every = [node.name for node, _ in nodes(ast.FunctionDef)]
        for name in makers:
            if name == "__iter__":
                continue
            self.assertFalse(name.startswith("__"), name)
            self.assertEqual(every.count(name), 1, name)
            self.assertNotIn(name, METHODS)


class Reached(unittest.TestCase):
    """What properties and operators call, however far below; a call counts for all functions and methods of its name."""

    def setUp(self):
        self.own, self.properties, first = {}, set(), []
        for path, tree in TREES.items():
            for node in ast.walk(tree):
                if isinstance(node, ast.FunctionDef):
                    self.own.setdefault(node.name, []).append((path, node))
                    decorators = [getattr(decorator, "id", "") for decorator in node.decorator_list]
                    if "property" in decorators:
                        self.properties.add(node.name)
                    operator = node.name.startswith("__") and node.name not in ("__init__", "__call__")
                    if operator or "property" in decorators:
                        first.append((path, node))
                if isinstance(node, ast.ClassDef):
                    inits = [inner for inner in node.body if getattr(inner, "name", "") == "__init__"]
                    self.own.setdefault(node.name, []).extend((path, inner) for inner in inits)
        self.reached = []
        while first:
            path, node = first.pop()
            if (path, node) not in self.reached:
                self.reached.append((path, node))
                for name in self.called(node) | self.read(node):
                    first.extend(self.own.get(name, []))

    def called(self, node):
        calls = [inner.func for inner in ast.walk(node) if isinstance(inner, ast.Call)]
        return {func.id if isinstance(func, ast.Name) else func.attr for func in calls}

    def read(self, node):
        return {inner.attr for inner in ast.walk(node) if isinstance(inner, ast.Attribute)} & self.properties

    def test_something_is_reached(self):
        names = {node.name for _, node in self.reached}
        for name in ("__contains__", "weight", "run", "further", "under", "total_weight", "copied"):
            self.assertIn(name, names)

    def test_no_function_is_called_by_another_name(self):
        others = {path: {alias.asname for node in tree.body if isinstance(node, ast.ImportFrom) for alias in node.names}
                  - {None} for path, tree in TREES.items()}
        for path, node in self.reached:
            self.assertEqual(self.called(node) & others[path], set(), f"{path.name}:{node.lineno}")

    def test_no_generator_is_gone_over(self):
        makers = {node.name for node, _ in nodes(ast.FunctionDef)
                  if any(isinstance(inner, (ast.Yield, ast.YieldFrom)) for inner in ast.walk(node))}
        self.assertIn("up", makers)
        for path, node in self.reached:
            self.assertEqual(self.called(node) & makers, set(), f"{path.name}:{node.lineno}")
            for inner in ast.walk(node):
                self.assertNotIsInstance(inner, (ast.Yield, ast.YieldFrom, ast.GeneratorExp), f"{path.name}:{node.lineno}")


ADDING = ("append", "extend", "insert")
LOOPS = (ast.For, ast.ListComp, ast.SetComp, ast.DictComp, ast.GeneratorExp)


def names_of(value):
    """The plain names whose very value this may be."""
    if isinstance(value, ast.Name):
        return {value.id}
    parts = [value.body, value.orelse] if isinstance(value, ast.IfExp) else getattr(value, "values", [])
    return set().union(*[names_of(part) for part in parts]) if isinstance(value, (ast.IfExp, ast.BoolOp)) else set()


def walked_by(loop):
    """The plain names that a loop or comprehension goes over, also through what gives the items of another."""
    found = set()
    for value in [loop.iter] if isinstance(loop, ast.For) else [part.iter for part in loop.generators]:
        inner = [value]
        if isinstance(value, ast.Call) and getattr(value.func, "id", "") in ("enumerate", "zip", "reversed"):
            inner = value.args
        found = found.union(*[names_of(part) for part in inner])
    return found


def added_to(loop):
    """The plain names of the lists to which a loop adds something."""
    found = set()
    for node in ast.walk(loop):
        if isinstance(node, ast.Call) and isinstance(node.func, ast.Attribute) and node.func.attr in ADDING:
            found |= names_of(node.func.value)
        elif isinstance(node, ast.AugAssign):
            found |= names_of(node.target)
    return found


def given_to(function):
    """For each plain name those whose very value a function assigns to it."""
    found = {}
    for node in ast.walk(function):
        for target in node.targets if isinstance(node, ast.Assign) else []:
            pairs = [(target, node.value)]
            if isinstance(target, ast.Tuple) and isinstance(node.value, ast.Tuple):
                pairs = zip(target.elts, node.value.elts)
            for one, value in pairs:
                if isinstance(one, ast.Name):
                    found.setdefault(one.id, set()).update(names_of(value))
    return found


def loops_that_add_to_what_they_walk(tree):
    """The lines of loops that add to a list that, from the names alone, may be the one that they go over."""
    lines = []
    for function in [node for node in ast.walk(tree) if isinstance(node, ast.FunctionDef)]:
        given = given_to(function)
        for loop in [node for node in ast.walk(function) if isinstance(node, LOOPS)]:
            same, waiting = set(), sorted(walked_by(loop))
            while waiting:
                name = waiting.pop()
                if name not in same:
                    same.add(name)
                    waiting.extend(given.get(name, ()))
            if same & added_to(loop):
                lines.append(loop.lineno)
    return lines


class Walked(unittest.TestCase):
    """No loop adds to a list that is also assigned to the name that it goes over."""

    def lines(self, head, *then, adds="longer.append(row)"):
        rows = ["def f(rows):", "    while rows:", "        longer = []", f"        for row in {head}:", f"            {adds}"]
        return loops_that_add_to_what_they_walk(ast.parse("\n".join([*rows, *["        " + row for row in then]])))

    def test_the_package(self):
        for path, tree in TREES.items():
            self.assertEqual(loops_that_add_to_what_they_walk(tree), [], path)

    def test_forms_that_are_refused(self):
        for head in ("rows", "enumerate(rows)", "reversed(rows)", "zip(longer[1:], rows)", "rows or ()", "a if a else rows"):
            self.assertEqual(self.lines(head, "rows = longer"), [4], head)
        for then in (["rows = longer or []"], ["rows = [] if rows else longer"], ["rows, many = longer, 1"],
                     ["next_ones = longer", "rows = next_ones"], ["kept = rows = longer"]):
            self.assertEqual(self.lines("rows", *then), [4], then)
        for adds in ("longer.extend(row)", "longer.insert(0, row)", "longer += row", "rows.append(row)"):
            self.assertEqual(self.lines("rows", "rows = longer", adds=adds), [4], adds)
        self.assertEqual(self.lines("list(rows)", "rows = longer", adds="[longer.append(one) for one in rows]"), [5])

    def test_forms_that_are_allowed(self):
        self.assertEqual(self.lines("list(rows)", "rows = longer"), [])
        for then in ([], ["rows = list(longer)"], ["rows = [*longer]"], ["rows, many = list(longer), longer"]):
            self.assertEqual(self.lines("rows", *then), [], then)


if __name__ == "__main__":
    unittest.main()
