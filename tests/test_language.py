"""Checks of the package's files against LANGUAGE.md: those rules that are plain to see in a file."""

import ast
import builtins
import pathlib
import unittest
import warnings

PACKAGE = pathlib.Path(__file__).resolve().parent.parent / "piecefacts"
FILES = sorted(path for path in PACKAGE.iterdir() if path.name != "__pycache__")
BUILTINS = set("""len range enumerate zip min max sum abs sorted reversed int str bool bytes list tuple dict set frozenset
isinstance ord repr any all divmod iter next Exception ValueError TypeError KeyError IndexError LookupError
ZeroDivisionError ArithmeticError OverflowError RuntimeError NotImplementedError AttributeError StopIteration
NotImplemented property staticmethod classmethod super""".split())
LIBRARY = {"heapq", "math", "itertools", "__future__"}
METHODS = set("""append clear copy count endswith extend find get index insert isalnum isalpha isdigit islower isspace isupper
items join keys ljust lower lstrip partition pop remove replace reverse rfind rjust rpartition rsplit rstrip setdefault split
splitlines startswith strip update upper values zfill bit_length removeprefix removesuffix __init__""".split())
BARRED = set("""register mro elements open input law version_info with_traceback add_note attrgetter breakpoint builtins compile
copyright credits delattr dir eval exec exit gc getattr globals hasattr help id importlib license locals methodcaller os quit
setattr type vars sys _wall _WallAttr _cold _tuplegetter _outside _record _written_out _member_names""".split())
WORDS = set("""typing typing_extensions enum Enum IntEnum StrEnum Flag IntFlag Generic Protocol ABC ABCMeta namedtuple NamedTuple
TypedDict TYPE_CHECKING abstractmethod dataclass overload contextmanager type""".split())
ITERATORS = {"zip", "enumerate", "reversed", "range", "map", "iter"}
VIEWS = {"items", "keys", "values"}
WALKERS = {"list", "tuple", "dict", "sorted", "sum", "any", "all", "min", "max", "enumerate", "zip"}


def iterators_not_walked(tree):
    """Return the lines of iterators and views that are not walked where they stand: kept in a name, passed on .."""
    walked = []
    for node in ast.walk(tree):
        if isinstance(node, (ast.For, ast.comprehension)):
            walked.append(node.iter)
        elif isinstance(node, ast.Call) and (getattr(node.func, "id", "") in WALKERS
                                             or getattr(node.func, "attr", "") == "join"):
            walked += node.args
        elif isinstance(node, ast.Call) and getattr(node.func, "id", "") in ("len", "reversed", "next"):
            walked += [part for part in node.args if getattr(getattr(part, "func", None), "id", "") in ("range", "iter")]
    return [node.lineno for node in ast.walk(tree) if is_iterator(node) and node not in walked]


def is_iterator(node):
    """Tell whether a node is a call that gives an iterator or a view."""
    if not isinstance(node, ast.Call):
        return False
    if isinstance(node.func, ast.Name):
        return node.func.id in ITERATORS
    return isinstance(node.func, ast.Attribute) and node.func.attr in VIEWS and not node.args


def asked_otherwise_than_for_none(tree):
    """Return the lines of the ifs of __exit__ that ask anything else than whether a name or an attribute is None.

    This is all that they may ask in a package with a class that has __eq__ or __len__, as that of tables has.
    """
    exits = [node for node in ast.walk(tree) if isinstance(node, ast.FunctionDef) and node.name == "__exit__"]
    parts = [part for node in exits for part in ast.walk(node)]
    return [part.lineno for part in parts if isinstance(part, (ast.If, ast.IfExp)) and not asks_for_none(part.test)]


def asks_for_none(test):
    """Tell whether a test is `is None` or `is not None` behind a name or an attribute, or and, or, not of such."""
    if isinstance(test, ast.BoolOp):
        return all(asks_for_none(part) for part in test.values)
    if isinstance(test, ast.UnaryOp):
        return isinstance(test.op, ast.Not) and asks_for_none(test.operand)
    if not isinstance(test, ast.Compare) or not isinstance(test.left, (ast.Name, ast.Attribute)):
        return False
    return (len(test.ops) == 1 and isinstance(test.ops[0], (ast.Is, ast.IsNot))
            and isinstance(test.comparators[0], ast.Constant) and test.comparators[0].value is None)


class LanguageTest(unittest.TestCase):
    def each_node(self, kinds):
        for path in FILES:
            for node in ast.walk(ast.parse(path.read_text())):
                if isinstance(node, kinds):
                    yield path.name, node

    def test_files(self):
        for path in FILES:
            self.assertRegex(path.name, r"^[a-z_][a-z0-9_]*\.py$")
            text = path.read_text(encoding="ascii")
            self.assertRegex(text, r"^[ -~\n]*$")
            lines = text.split("\n")
            self.assertLessEqual(len(lines), 400, path)
            self.assertLessEqual(max(map(len, lines)), 120, path)
            with warnings.catch_warnings():
                warnings.simplefilter("error")
                compile(text, path.name, "exec")

    def test_functions_are_short(self):
        for name, node in self.each_node(ast.FunctionDef):
            self.assertLessEqual(node.end_lineno - node.lineno + 1, 40, (name, node.name))

    def test_imports(self):
        for name, node in self.each_node((ast.Import, ast.ImportFrom)):
            self.assertIsInstance(node, ast.ImportFrom, name)
            self.assertTrue(node.module.startswith("piecefacts.") or node.module in LIBRARY, (name, node.module))
            for alias in node.names:
                self.assertNotEqual(alias.name, "*")

    def test_imports_name_the_file_that_defines_the_name(self):
        for name, node in self.each_node(ast.ImportFrom):
            if node.module not in LIBRARY:
                text = (PACKAGE / (node.module.split(".")[1] + ".py")).read_text()
                defined = [getattr(part, "name", None) for part in ast.parse(text).body]
                defined += [part.targets[0].id for part in ast.parse(text).body if isinstance(part, ast.Assign)]
                for alias in node.names:
                    self.assertIn(alias.name, defined, name)

    def test_builtins(self):
        for name, node in self.each_node(ast.Name):
            if hasattr(builtins, node.id):
                self.assertIn(node.id, BUILTINS, (name, node.lineno))
                self.assertIsInstance(node.ctx, ast.Load, (name, node.lineno))

    def test_names_are_bound_once_in_a_file(self):
        for path in FILES:
            tree = ast.parse(path.read_text())
            imported = [alias.name for node in tree.body if isinstance(node, ast.ImportFrom) for alias in node.names]
            defined = [node.name for node in tree.body if isinstance(node, (ast.FunctionDef, ast.ClassDef))]
            values = [node.targets[0].id for node in tree.body if isinstance(node, ast.Assign)]
            bound = imported + defined + values
            self.assertEqual(sorted(set(bound)), sorted(bound), path)
            for node in ast.walk(tree):
                if isinstance(node, ast.FunctionDef):
                    inner = [part.arg for part in ast.walk(node) if isinstance(part, ast.arg)]
                    inner += [part.id for part in ast.walk(node) if isinstance(part, ast.Name)
                              and isinstance(part.ctx, ast.Store)]
                    self.assertFalse(set(inner) & set(bound), (path, node.name))
                    self.assertFalse(set(inner) & set(dir(builtins)), (path, node.name))

    def test_barred_names_and_words(self):
        for name, node in self.each_node((ast.Name, ast.arg, ast.FunctionDef, ast.ClassDef, ast.Attribute)):
            for field in ("id", "arg", "name", "attr"):
                word = getattr(node, field, "")
                self.assertNotIn(word, BARRED | WORDS, name)
                if word.startswith("__"):
                    self.assertIsInstance(node, (ast.FunctionDef, ast.Attribute), name)
        for name, node in self.each_node(ast.Constant):
            if isinstance(node.value, str):
                self.assertNotIn("%", node.value, name)

    def test_methods(self):
        own = {part.name for _, node in self.each_node(ast.ClassDef) for part in node.body if isinstance(part, ast.FunctionDef)}
        for name, node in self.each_node(ast.Call):
            if isinstance(node.func, ast.Attribute):
                self.assertIn(node.func.attr, METHODS | own, (name, node.lineno))
                self.assertEqual(node.keywords, [], (name, node.lineno))

    def test_names_of_methods_and_attributes(self):
        methods, attributes = set(), set()
        for _, node in self.each_node(ast.ClassDef):
            methods |= {part.name for part in node.body if isinstance(part, ast.FunctionDef)}
        for _, node in self.each_node(ast.Attribute):
            if isinstance(node.ctx, ast.Store):
                attributes.add(node.attr)
        self.assertEqual(methods & attributes, set())
        taken = {name for kind in (str, bytes, int, list, tuple, dict, set) for name in dir(kind)}
        self.assertEqual([name for name in methods | attributes if name in taken and not name.startswith("__")], [])

    def test_is_stands_beside_none_true_false_and_self(self):
        for name, node in self.each_node(ast.Compare):
            if any(isinstance(sign, (ast.Is, ast.IsNot)) for sign in node.ops):
                sides = [node.left, *node.comparators]
                self.assertTrue(any(isinstance(side, ast.Constant) or getattr(side, "id", "") == "self" for side in sides), name)

    def test_what_a_loop_walks_over_is_not_changed_in_it(self):
        changing = {"append", "clear", "extend", "insert", "pop", "remove", "reverse", "setdefault", "update"}
        for name, loop in self.each_node(ast.For):
            walked = {ast.unparse(part) for part in ast.walk(loop.iter) if isinstance(part, (ast.Name, ast.Attribute))}
            for node in [node for part in loop.body for node in ast.walk(part)]:
                changed = None
                if isinstance(node, ast.Call) and getattr(node.func, "attr", "") in changing:
                    changed = node.func.value
                elif isinstance(node, ast.Subscript) and not isinstance(node.ctx, ast.Load):
                    changed = node.value
                self.assertFalse(changed is not None and ast.unparse(changed) in walked, (name, loop.lineno))

    def test_blocks_end_as_the_rules_allow(self):
        for name, node in self.each_node(ast.FunctionDef):
            if node.name == "__exit__":
                self.assertEqual([arg.arg for arg in node.args.args], ["self", "kind", "value", "trace"], name)
                for part in ast.walk(node):
                    self.assertNotIsInstance(part, (ast.Call, ast.For, ast.While, ast.BinOp, ast.Subscript, ast.Raise), name)
                    self.assertNotIn(getattr(part, "id", ""), ("value", "trace"), name)

    def test_ends_of_blocks_ask_only_for_none(self):
        for path in FILES:
            self.assertEqual(asked_otherwise_than_for_none(ast.parse(path.read_text())), [], path)

    def test_ends_of_blocks_that_ask_otherwise_are_seen(self):
        row = "class Block:\n def __exit__(self, kind, value, trace):\n  "
        for test in ["self.kept", "kind", "not self.kept", "kind is not None or not self.kept", "kind is None and self.kept",
                     "self.kept is True", "self.kept is not False", "self.many == 0", "self.kept == None", "self.many > 3",
                     "None is self.kept", "kind is None is None", "self.rows[0] is None", "len(self.rows) is None", "True",
                     "(kept := self.kept) is None", "not (kind is None or self.table.kept)", "-kind is None", "kind in ()"]:
            for rows in (f"if {test}:\n   pass", f"if kind is None:\n   if {test}: pass", f"self.x = 1 if {test} else 2"):
                lines = asked_otherwise_than_for_none(ast.parse(row + rows))
                self.assertEqual(len(lines), 1, rows)
            self.assertEqual(asked_otherwise_than_for_none(ast.parse(row + f"if kind is None: pass\n  elif {test}: pass")), [4])
        for test in ["kind is None", "self.kept is not None", "kind is not None or self.kept is None", "not kind is None",
                     "not (self.table.kept is None and (kind is None or self.kept is not None))"]:
            self.assertEqual(asked_otherwise_than_for_none(ast.parse(row + f"if {test}:\n   pass")), [], test)
        self.assertEqual(asked_otherwise_than_for_none(ast.parse("def keep(self):\n if self.kept:\n  pass")), [])

    def test_own_functions_are_passed_what_they_take(self):
        takes = {}
        for _, node in self.each_node(ast.FunctionDef):
            takes[node.name] = node.args
        for name, node in self.each_node(ast.Call):
            if isinstance(node.func, ast.Name) and node.func.id in takes:
                args = takes[node.func.id]
                self.assertEqual(len(node.args), len(args.args), (name, node.lineno))
                allowed = [arg.arg for arg in args.kwonlyargs]
                self.assertTrue(all(keyword.arg in allowed for keyword in node.keywords), (name, node.lineno))

    def test_sets_are_sorted_counted_or_asked_at_once(self):
        for path in FILES:
            tree = ast.parse(path.read_text())
            fine = []
            for node in ast.walk(tree):
                if isinstance(node, ast.Call) and isinstance(node.func, ast.Name) and node.func.id in ("sorted", "len"):
                    fine += node.args
            for node in ast.walk(tree):
                made = isinstance(node, ast.Call) and isinstance(node.func, ast.Name) and node.func.id == "set"
                if made or isinstance(node, (ast.Set, ast.SetComp)):
                    self.assertIn(node, fine, (path, node.lineno))

    def test_iterators_are_walked_on_the_spot(self):
        for path in FILES:
            self.assertEqual(iterators_not_walked(ast.parse(path.read_text())), [], path)

    def test_iterators_that_are_kept_are_seen(self):
        for kept in ["parts = zip(xs, ys)", "parts = low = enumerate(xs)", "parts: list = reversed(xs)", "parts = map(f, xs)",
                     "parts = xs.items()", "parts = zip(xs) if xs else ys", "f(zip(xs, ys))", "self.parts = xs.values()",
                     "parts = range(3)", "parts = (zip(xs), 1)", "if parts := zip(xs):\n pass", "parts = iter(xs)",
                     "one, other = zip(xs, ys)"]:
            self.assertEqual(iterators_not_walked(ast.parse("xs = 1\n" + kept)), [2], kept)
        for fine in ["parts = list(zip(xs, ys))", "for x in zip(xs, enumerate(ys)):\n pass", "parts = [x for x in xs.items()]",
                     "parts = dict(zip(xs, ys))", "parts = ''.join(reversed(xs))", "parts = {x: y for x, y in zip(xs, ys)}",
                     "parts = list(reversed(range(3)))", "parts = zipped(xs)", "parts = min(xs.values(), default=0)"]:
            self.assertEqual(iterators_not_walked(ast.parse(fine)), [], fine)

    def test_no_two_files_import_from_each_other(self):
        imports = {}
        for name, node in self.each_node(ast.ImportFrom):
            imports.setdefault(name.removesuffix(".py"), set()).add(node.module.removeprefix("piecefacts."))
        for start in imports:
            reached, waiting = set(), [start]
            while waiting:
                for name in imports.get(waiting.pop(), ()):
                    if name not in reached:
                        reached.add(name)
                        waiting.append(name)
            self.assertNotIn(start, reached)

    def test_no_floats_and_no_generators_beside_own_equality(self):
        for name, node in self.each_node((ast.Constant, ast.Div, ast.GeneratorExp)):
            self.assertIsInstance(node, ast.Constant, name)
            self.assertNotIsInstance(node.value, float, name)


if __name__ == "__main__":
    unittest.main()
