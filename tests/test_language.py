"""The package keeps to its subset of Python.

The rules are those of LANGUAGE.md, by their numbers. Where a rule is hard to see in the code, what
is tested here is narrower than the rule.
"""

import ast
import builtins
import pathlib
import re
import unittest

import cairn

PACKAGE = pathlib.Path(cairn.__file__).parent

BUILTINS = set(
    "len range enumerate zip min max sum abs sorted reversed int str bool list tuple dict isinstance "
    "ord repr any all divmod True False None".split()
)
# The methods of builtin values (L25).
METHODS = set(
    "append clear copy count endswith extend find get index insert isalnum isalpha isdigit islower "
    "isspace isupper items join keys ljust lower lstrip partition pop remove replace reverse rfind "
    "rjust rpartition rsplit rstrip setdefault split splitlines startswith strip update upper values "
    "zfill bit_length".split()
)
ITERATED_AT_ONCE = {"zip", "enumerate", "reversed"}
ITERATING = {"list", "tuple", "dict", "sorted", "sum", "any", "all", "enumerate", "zip", "min", "max"}
VIEWS = {"items", "keys", "values"}
BARRED = set(
    "register mro elements open input law version_info with_traceback add_note attrgetter breakpoint "
    "builtins compile copyright credits delattr dir eval exec exit gc getattr globals hasattr help id "
    "importlib license locals methodcaller os quit setattr super type vars sys _cold _tuplegetter "
    "_outside _record _written_out _member_names".split()
)
BARRED_WORDS = re.compile(
    r"\b(type|typing|typing_extensions|enum|Enum|IntEnum|StrEnum|Flag|IntFlag|Generic|Protocol|ABC|"
    r"ABCMeta|namedtuple|NamedTuple|TypedDict|TYPE_CHECKING|abstractmethod)\b|dataclass|overload|contextmanager"
)
NAME = re.compile(r"_?[A-Za-z][A-Za-z0-9_]*|_|__init__")
BARRED_BEGINNING = re.compile(r"_wall|_pe_|_dcw_|_enum_|_cm_|_twin_re_|_lay_|_law_|_stub_|_sre|_WallAttr")
# What a value of Python's own has: no method and no attribute is called so (L26), but for these.
OWN_VALUES = {name for kind in (str, int, list, dict, set, bytes) for name in dir(kind) if not name.startswith("__")}
METHODS_THAT_MAY = METHODS | {"add", "discard"}
ATTRIBUTES_THAT_MAY = set("count index title find get join lower upper split strip copy add".split())

STATEMENTS = (
    ast.Assign, ast.AugAssign, ast.If, ast.While, ast.For, ast.Return, ast.Break, ast.Continue, ast.Pass,
    ast.Raise, ast.Assert, ast.Delete, ast.Try, ast.Expr, ast.FunctionDef, ast.ClassDef, ast.ImportFrom, ast.Match,
)
UNWANTED = (
    ast.Lambda, ast.Set, ast.SetComp, ast.Starred, ast.NamedExpr, ast.Yield, ast.YieldFrom, ast.Await,
    ast.Global, ast.Nonlocal, ast.AnnAssign, ast.With, ast.Div, ast.Pow, ast.MatMult,
)
PATTERNS = (ast.MatchValue, ast.MatchSequence, ast.MatchAs, ast.MatchOr)
# The interface gives one class a method and another one an attribute of each of these names.
BOTH = {"command", "phase"}

SOURCES = {path: path.read_text() for path in sorted(PACKAGE.glob("*.py"))}
TREES = {path: ast.parse(text) for path, text in SOURCES.items()}


def nodes(kind):
    """All nodes of a kind, with their files."""
    return [(path, node) for path, tree in TREES.items() for node in ast.walk(tree) if isinstance(node, kind)]


def place(path, node):
    return f"{path.name}, line {getattr(node, 'lineno', '?')}"


def docstrings():
    """The nodes of all docstrings."""
    found = set()
    for _, node in nodes((ast.Module, ast.ClassDef, ast.FunctionDef)):
        first = node.body[0] if node.body else None
        if isinstance(first, ast.Expr) and isinstance(first.value, ast.Constant):
            found.add(first.value)
    return found


def names_assigned(tree):
    """The names that are assigned somewhere, parameters included."""
    found = []
    for node in ast.walk(tree):
        if isinstance(node, ast.Name) and not isinstance(node.ctx, ast.Load):
            found.append((node.id, node))
        elif isinstance(node, ast.arg):
            found.append((node.arg, node))
        elif isinstance(node, (ast.ExceptHandler, ast.MatchAs)) and node.name:
            found.append((node.name, node))
    return found


def names_defined(tree):
    """The names of functions and classes."""
    kinds = (ast.FunctionDef, ast.ClassDef)
    return [(node.name, node) for node in ast.walk(tree) if isinstance(node, kinds)]


def methods_of(owner):
    return [node for node in owner.body if isinstance(node, ast.FunctionDef)]


OWN_METHODS = {method.name for _, owner in nodes(ast.ClassDef) for method in methods_of(owner)}
OWN_ERRORS = {owner.name for _, owner in nodes(ast.ClassDef) if owner.bases}
PARENTS = {child: node for _, node in nodes(ast.AST) for child in ast.iter_child_nodes(node)}


class FilesTest(unittest.TestCase):

    def test_the_folder(self):
        """L1, L14."""
        names = {path.name for path in PACKAGE.iterdir() if path.name != "__pycache__"}
        self.assertEqual(names, {path.name for path in SOURCES})
        self.assertIn("__init__.py", names)
        for name in names:
            self.assertRegex(name, r"^(__init__|[a-z][a-z0-9_]*)\.py$")
            self.assertNotIn(name[:-3], dir(builtins))

    def test_characters_and_sizes(self):
        """L10, L14."""
        for path, text in SOURCES.items():
            self.assertRegex(text, r"\A[ -~\n]*\Z", path.name)
            lines = text.split("\n")
            self.assertLessEqual(len(lines), 399, path.name)
            for line in lines:
                self.assertLessEqual(len(line), 120, f"{path.name}: {line}")

    def test_lengths_of_functions(self):
        """L10."""
        for path, node in nodes(ast.FunctionDef):
            self.assertLessEqual(node.end_lineno - node.lineno + 1, 40, place(path, node))

    def test_no_warnings(self):
        """L27."""
        import warnings
        with warnings.catch_warnings():
            warnings.simplefilter("error")
            for path, text in SOURCES.items():
                compile(text, path.name, "exec")


class ModuleTest(unittest.TestCase):

    def test_imports(self):
        """L2, L16: each name from the file that defines it, and no circles."""
        edges = {}
        for path, tree in TREES.items():
            edges[path.stem] = []
            for node in ast.walk(tree):
                self.assertNotIsInstance(node, ast.Import, place(path, node))
                if isinstance(node, ast.ImportFrom):
                    self.assertIn(node, tree.body, place(path, node))
                    self.assertEqual(node.level, 0, place(path, node))
                    self.assertRegex(node.module, r"^cairn\.[a-z_]+$", place(path, node))
                    source = node.module.partition(".")[2]
                    edges[path.stem].append(source)
                    bound = self.bound(TREES[PACKAGE / f"{source}.py"])
                    for alias in node.names:
                        self.assertIsNone(alias.asname, place(path, node))
                        self.assertIn(alias.name, bound, place(path, node))
        while edges:
            free = [name for name, sources in edges.items() if not set(sources) & set(edges)]
            self.assertTrue(free, f"a circle of imports among {sorted(edges)}")
            for name in free:
                del edges[name]

    def test_imports_are_used_and_stand_at_the_top(self):
        """L2."""
        for path, tree in TREES.items():
            used = {node.id for node in ast.walk(tree) if isinstance(node, ast.Name)}
            over = False
            for node in tree.body:
                if isinstance(node, ast.ImportFrom):
                    self.assertFalse(over, place(path, node))
                    for alias in node.names:
                        self.assertIn(alias.name, used, place(path, node))
                elif not isinstance(node, ast.Expr):
                    over = True

    def bound(self, tree):
        """The names that a module binds itself."""
        found = [node.name for node in tree.body if isinstance(node, (ast.FunctionDef, ast.ClassDef))]
        for node in tree.body:
            if isinstance(node, ast.Assign):
                found.extend(target.id for target in node.targets)
        return found

    def test_module_level(self):
        """L3, L15: plain values, each name bound once."""
        for path, tree in TREES.items():
            bound = self.bound(tree)
            for node in tree.body:
                if isinstance(node, ast.ImportFrom):
                    bound.extend(alias.name for alias in node.names)
                elif isinstance(node, ast.Assign):
                    self.assertEqual(len(node.targets), 1, place(path, node))
                    self.assertIsInstance(node.targets[0], ast.Name, place(path, node))
                    self.assertIsInstance(ast.literal_eval(node.value), (int, str, tuple, dict), place(path, node))
                elif isinstance(node, ast.Expr):
                    self.assertIn(node.value, docstrings(), place(path, node))
                else:
                    self.assertIsInstance(node, (ast.FunctionDef, ast.ClassDef), place(path, node))
            self.assertEqual(len(bound), len(set(bound)), path.name)

    def test_classes(self):
        """L5, L18: methods alone, no decorators, one base class at most."""
        for path, owner in nodes(ast.ClassDef):
            self.assertIn(owner, TREES[path].body, place(path, owner))
            self.assertEqual(owner.decorator_list + owner.keywords, [], place(path, owner))
            self.assertLessEqual(len(owner.bases), 1, place(path, owner))
            for node in owner.body:
                if not isinstance(node, ast.FunctionDef):
                    self.assertIn(node.value, docstrings(), place(path, node))
            names = [method.name for method in methods_of(owner)]
            self.assertEqual(len(names), len(set(names)), place(path, owner))

    def test_functions(self):
        """L4, L21: no decorators, no stars, no annotations, plain default values."""
        for path, node in nodes(ast.FunctionDef):
            self.assertEqual(node.decorator_list, [], place(path, node))
            self.assertIsNone(node.returns, place(path, node))
            arguments = node.args
            self.assertIsNone(arguments.vararg or arguments.kwarg, place(path, node))
            for argument in arguments.args + arguments.kwonlyargs:
                self.assertIsNone(argument.annotation, place(path, node))
            for default in arguments.defaults:
                ast.literal_eval(default)

    def test_double_underscores(self):
        """L5, L8, L28."""
        for path, node in nodes(ast.FunctionDef):
            if node.name.startswith("__"):
                self.assertEqual(node.name, "__init__", place(path, node))
                for inner in ast.walk(node):
                    self.assertNotIsInstance(inner, ast.Return, place(path, node))


class NamesTest(unittest.TestCase):

    def test_plain_names(self):
        """L12, L17."""
        for path, tree in TREES.items():
            attributes = [(node.attr, node) for node in ast.walk(tree) if isinstance(node, ast.Attribute)]
            for name, node in names_assigned(tree) + names_defined(tree) + attributes:
                self.assertRegex(name, f"^({NAME.pattern})$", place(path, node))
                self.assertIsNone(BARRED_BEGINNING.match(name), place(path, node))
                self.assertNotIn(name, BARRED, place(path, node))

    def test_no_name_of_a_builtin(self):
        """L8, L15."""
        for path, tree in TREES.items():
            for name, node in names_assigned(tree) + names_defined(tree):
                self.assertNotIn(name, dir(builtins), place(path, node))

    def test_no_local_name_of_an_import_or_a_class(self):
        """L15."""
        for path, tree in TREES.items():
            taken = {node.name for node in tree.body if isinstance(node, ast.ClassDef)}
            for node in tree.body:
                if isinstance(node, ast.ImportFrom):
                    taken.update(alias.name for alias in node.names)
            for name, node in names_assigned(tree):
                self.assertNotIn(name, taken, place(path, node))

    def test_the_underscore_is_not_read(self):
        """L12."""
        for path, node in nodes(ast.Name):
            if node.id == "_":
                self.assertIsInstance(node.ctx, ast.Store, place(path, node))

    def test_builtins(self):
        """L8: only those of the list are used, and they are called."""
        for path, tree in TREES.items():
            for node in ast.walk(tree):
                if isinstance(node, ast.Name) and isinstance(node.ctx, ast.Load) and node.id in dir(builtins):
                    parent = PARENTS[node]
                    if isinstance(parent, ast.ClassDef):
                        self.assertEqual(node.id, "ValueError", place(path, node))
                        continue
                    self.assertIn(node.id, BUILTINS, place(path, node))
                    called = isinstance(parent, ast.Call) and parent.func is node
                    asked = isinstance(parent, ast.Call) and ast.unparse(parent.func) == "isinstance"
                    self.assertTrue(called or asked, place(path, node))

    def test_names_of_methods(self):
        """L26."""
        for name in OWN_METHODS:
            self.assertNotIn(name, OWN_VALUES - METHODS_THAT_MAY)

    def test_names_of_attributes(self):
        """L18, L26: an attribute is no method of a class, and some class assigns it."""
        assigned = set()
        for path, node in nodes(ast.Attribute):
            if not isinstance(node.ctx, ast.Load):
                assigned.add(node.attr)
                self.assertNotIn(node.attr, OWN_METHODS - BOTH, place(path, node))
                self.assertNotIn(node.attr, OWN_VALUES - ATTRIBUTES_THAT_MAY, place(path, node))
        for path, node in nodes(ast.Attribute):
            if isinstance(node.ctx, ast.Load):
                parent = PARENTS[node]
                if isinstance(parent, ast.Call) and parent.func is node:
                    self.assertIn(node.attr, METHODS | OWN_METHODS, place(path, node))
                else:
                    self.assertIn(node.attr, assigned, place(path, node))


    def test_no_attribute_is_a_method_of_its_class(self):
        """L18."""
        for path, owner in nodes(ast.ClassDef):
            own = {method.name for method in methods_of(owner)}
            for node in ast.walk(owner):
                if isinstance(node, ast.Attribute) and not isinstance(node.ctx, ast.Load):
                    self.assertNotIn(node.attr, own, place(path, node))


class MatchTest(unittest.TestCase):
    """L6 Match."""

    def test_patterns(self):
        for path, node in nodes(ast.pattern):
            self.assertIsInstance(node, PATTERNS, place(path, node))
            if isinstance(node, ast.MatchValue):
                self.assertIsInstance(node.value, ast.Constant, place(path, node))
                self.assertNotIn("__", node.value.value, place(path, node))
            elif isinstance(node, ast.MatchOr):
                for other in node.patterns:
                    self.assertIsInstance(other, ast.MatchValue, place(path, node))
            elif isinstance(node, ast.MatchAs):
                self.assertIsNone(node.pattern, place(path, node))

    def test_captured_names_are_read_in_their_own_case_only(self):
        for path, function in nodes(ast.FunctionDef):
            arguments = {argument.arg for argument in function.args.args}
            cases = [node for node in ast.walk(function) if isinstance(node, ast.match_case)]
            reads = [node for node in ast.walk(function) if isinstance(node, ast.Name)]
            names = [self.captured(case) for case in cases]
            for found in names:
                self.assertEqual(len(found), len(set(found)), place(path, function))
                self.assertEqual(set(found) & arguments, set(), place(path, function))
            within = {node: found for case, found in zip(cases, names) for node in ast.walk(case)}
            for node in reads:
                if any(node.id in found for found in names):
                    self.assertIsInstance(node.ctx, ast.Load, place(path, node))
                    self.assertIn(node.id, within.get(node, []), place(path, node))

    def test_cases_have_no_guard_and_are_not_nested(self):
        for path, case in nodes(ast.match_case):
            self.assertIsNone(case.guard, place(path, case.pattern))
            for statement in case.body:
                for node in ast.walk(statement):
                    self.assertNotIsInstance(node, (ast.Match, ast.Lambda), place(path, case.pattern))

    def captured(self, case):
        return [node.name for node in ast.walk(case.pattern) if isinstance(node, ast.MatchAs) and node.name]


class ExpressionsTest(unittest.TestCase):

    def test_statements(self):
        """L6."""
        for path, node in nodes(ast.stmt):
            self.assertIsInstance(node, STATEMENTS, place(path, node))

    def test_unwanted_expressions(self):
        """L6, L7, L24, L27. A lambda stands only as a key."""
        for path, node in nodes(UNWANTED):
            keyed = isinstance(PARENTS[node], ast.keyword) and PARENTS[node].arg == "key"
            self.assertTrue(isinstance(node, ast.Lambda) and keyed, place(path, node))

    def test_constants(self):
        """L7, L17, L27."""
        spoken = docstrings()
        for path, node in nodes(ast.Constant):
            self.assertIn(type(node.value), (int, str, bool, type(None)), place(path, node))
            if isinstance(node.value, str) and node not in spoken:
                self.assertNotIn("%", node.value, place(path, node))
                self.assertIsNone(BARRED_WORDS.search(node.value), place(path, node))
                self.assertFalse(node.value.endswith(("._", ".__")), place(path, node))

    def test_escapes(self):
        """L27."""
        for path, text in SOURCES.items():
            self.assertIsNone(re.search(r"\\[^nt\\\"']", text.replace("\\\\", "")), path.name)

    def test_is(self):
        """L20."""
        for path, node in nodes(ast.Compare):
            for operator, other in zip(node.ops, node.comparators):
                if isinstance(operator, (ast.Is, ast.IsNot)):
                    self.assertIsInstance(other, ast.Constant, place(path, node))
                    self.assertIn(other.value, (None, True, False), place(path, node))

    def test_keywords_of_builtins(self):
        """L22."""
        allowed = {"sorted": {"key", "reverse"}, "min": {"key", "default"}, "max": {"key", "default"}}
        for path, node in nodes(ast.Call):
            if isinstance(node.func, ast.Name) and node.func.id in BUILTINS:
                found = {keyword.arg for keyword in node.keywords}
                self.assertLessEqual(found, allowed.get(node.func.id, set()), place(path, node))
            elif isinstance(node.func, ast.Attribute) and node.func.attr in METHODS:
                self.assertEqual(node.keywords, [], place(path, node))

    def test_iterated_at_once(self):
        """L23: what zip, enumerate, reversed and views give is not stored."""
        for path, node in nodes(ast.Call):
            called = node.func.id if isinstance(node.func, ast.Name) else None
            view = isinstance(node.func, ast.Attribute) and node.func.attr in VIEWS
            if called in ITERATED_AT_ONCE or view:
                parent = PARENTS[node]
                loop = isinstance(parent, (ast.For, ast.comprehension)) and parent.iter is node
                inside = isinstance(parent, ast.Call) and ast.unparse(parent.func) in ITERATING
                self.assertTrue(loop or inside, place(path, node))

    def test_loops_do_not_change_what_they_iterate_over(self):
        """L23: nothing that the head of a loop names is changed in the loop."""
        changing = {"append", "clear", "extend", "insert", "pop", "remove", "reverse", "setdefault", "update"}
        for path, loop in nodes(ast.For):
            heads = {ast.unparse(node) for node in ast.walk(loop.iter) if isinstance(node, (ast.Name, ast.Attribute))}
            heads.discard("self")
            for statement in loop.body:
                for node in ast.walk(statement):
                    if isinstance(node, ast.Subscript) and not isinstance(node.ctx, ast.Load):
                        self.assertNotIn(ast.unparse(node.value), heads, place(path, node))
                    if isinstance(node, ast.Call) and isinstance(node.func, ast.Attribute):
                        if node.func.attr in changing:
                            self.assertNotIn(ast.unparse(node.func.value), heads, place(path, node))

    def test_errors(self):
        """L19: own errors are raised on the spot and caught by their names."""
        for path, node in nodes(ast.Raise):
            self.assertIsInstance(node.exc, ast.Call, place(path, node))
            self.assertIn(node.exc.func.id, OWN_ERRORS, place(path, node))
            self.assertEqual((len(node.exc.args), node.exc.keywords), (1, []), place(path, node))
        for path, node in nodes(ast.Try):
            self.assertEqual(node.finalbody, [], place(path, node))
            for handler in node.handlers:
                kinds = handler.type.elts if isinstance(handler.type, ast.Tuple) else [handler.type]
                for kind in kinds:
                    self.assertIn(kind.id, OWN_ERRORS | {"KeyError"}, place(path, node))

    def test_sets(self):
        """L24: none is stored; the package needs none."""
        for path, node in nodes(ast.Name):
            self.assertNotIn(node.id, ("set", "frozenset"), place(path, node))

    def test_generator_expressions(self):
        """L7: directly in a builtin that iterates over it."""
        for path, node in nodes(ast.GeneratorExp):
            parent = PARENTS[node]
            self.assertIsInstance(parent, ast.Call, place(path, node))
            self.assertIn(ast.unparse(parent.func), ITERATING, place(path, node))


if __name__ == "__main__":
    unittest.main()
