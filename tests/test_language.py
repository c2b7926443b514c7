"""The rules of the language that can be read off the code.

The tests name the rule; the numbers are those of the language's document.
"""

import ast
import builtins
import pathlib
import unittest

from walks import changed_walks

FOLDER = pathlib.Path(__file__).resolve().parent.parent / "pressalike"
FILES = sorted(path for path in FOLDER.iterdir() if path.name != "__pycache__")
TREES = {path.stem: ast.parse(path.read_text()) for path in FILES}

LIBRARY = {
    "heapq": ("heappush", "heappop", "heapify", "heapreplace", "heappushpop"),
    "math": ("gcd", "lcm", "isqrt", "comb", "perm", "factorial"),
    "itertools": ("chain", "accumulate", "pairwise", "islice", "zip_longest"),
    "collections": ("defaultdict", "deque"),
}
CALLED_BUILTINS = set(
    "len range enumerate zip min max sum abs sorted reversed int str bool list tuple dict set isinstance ord repr any all "
    "divmod map iter next type super".split()
)
LISTED_METHODS = set(
    "append clear copy count endswith extend find get index insert isalnum isalpha isdigit islower isspace isupper items "
    "join keys ljust lower lstrip partition pop remove replace reverse rfind rjust rpartition rsplit rstrip setdefault "
    "split splitlines startswith strip update upper values zfill bit_length add discard popleft appendleft".split()
)
UNUSED_NAMES = set("register mro elements open input law version_info with_traceback add_note".split())
EAGER = ("any", "all", "min", "max", "sum", "sorted")
CAUGHT = ("KeyError", "ZeroDivisionError")
DOUBLE = set("__init__ __eq__ __repr__ __str__ __len__ __call__ __iter__".split())


def nodes(kind):
    """All nodes of the kind, each with the name of its file."""
    return [(stem, node) for stem, tree in TREES.items() for node in ast.walk(tree) if isinstance(node, kind)]


def functions():
    return nodes(ast.FunctionDef)


def own_errors():
    return {node.name for node in ast.walk(TREES["errors"]) if isinstance(node, ast.ClassDef)}


def parameters(node):
    told = node.args.posonlyargs + node.args.args + node.args.kwonlyargs
    return [arg.arg for arg in told + [node.args.vararg, node.args.kwarg] if arg is not None]


def own_generators():
    return {node.name for _, node in functions() if any(
        isinstance(part, (ast.Yield, ast.YieldFrom)) for part in ast.walk(node))}


GENERATORS = own_generators()


class TestFiles(unittest.TestCase):
    def test_l1_l14_names(self):
        for path in FILES:
            self.assertRegex(path.name, r"\A[a-z_][a-z0-9_]*\.py\Z")
        self.assertIn("__init__", TREES)
        self.assertLessEqual(len(FILES), 100)

    def test_l10_l14_sizes_and_signs(self):
        for path in FILES:
            text = path.read_text()
            self.assertLessEqual(len(text.splitlines()), 399, path)
            for line in text.split("\n"):
                self.assertLessEqual(len(line), 120, path)
                self.assertTrue(all(" " <= sign <= "~" for sign in line), (path, line))
        for stem, node in functions():
            self.assertLessEqual(node.end_lineno - node.lineno + 1, 40, (stem, node.name))

    def test_l2_l16_imports(self):
        for stem, tree in TREES.items():
            for node in ast.walk(tree):
                self.assertNotIsInstance(node, ast.Import, stem)
                if isinstance(node, ast.ImportFrom):
                    self.assertIn(node, tree.body)
                    self.check_import(stem, node)

    def check_import(self, stem, node):
        names = [alias.name for alias in node.names]
        self.assertEqual([alias.asname for alias in node.names], [None] * len(names))
        if node.module in LIBRARY:
            self.assertLessEqual(set(names), set(LIBRARY[node.module]))
            return
        package, _, module = node.module.partition(".")
        self.assertEqual((package, node.level), ("pressalike", 0), stem)
        defined = set()
        for statement in TREES[module].body:
            if isinstance(statement, (ast.FunctionDef, ast.ClassDef)):
                defined.add(statement.name)
            elif isinstance(statement, ast.Assign):
                defined.add(statement.targets[0].id)
        self.assertLessEqual(set(names), defined, (stem, module))

    def test_l16_no_circles(self):
        needs = {
            stem: {node.module.partition(".")[2] for node in ast.walk(tree)
                   if isinstance(node, ast.ImportFrom) and node.module.startswith("pressalike.")}
            for stem, tree in TREES.items()
        }
        while needs:
            free = [stem for stem in needs if not needs[stem]]
            self.assertTrue(free, needs)
            needs = {stem: needs[stem] - set(free) for stem in needs if stem not in free}

    def test_l3_module_level(self):
        for stem, tree in TREES.items():
            self.assertIsNotNone(ast.get_docstring(tree), stem)
            for statement in tree.body[1:]:
                self.assertIsInstance(statement, (ast.ImportFrom, ast.FunctionDef, ast.ClassDef, ast.Assign), stem)
                if isinstance(statement, ast.Assign):
                    self.assertEqual(len(statement.targets), 1)
                    ast.literal_eval(statement.value)


class TestCode(unittest.TestCase):
    def test_l6_l7_no_other_syntax(self):
        barred = (ast.AsyncFunctionDef, ast.AsyncFor, ast.AsyncWith, ast.Await, ast.Global, ast.Div, ast.AnnAssign)
        self.assertEqual(nodes(barred), [])
        for stem, node in nodes(ast.Constant):
            self.assertNotIsInstance(node.value, (float, complex), stem)

    def test_l4_l5_decorators(self):
        for stem, node in functions():
            for decorator in node.decorator_list:
                self.assertIn(ast.unparse(decorator), ("property", "staticmethod", "classmethod"), (stem, node.name))
            self.assertTrue(node.name in DOUBLE or not node.name.startswith("__"), (stem, node.name))
            for default in node.args.defaults + [value for value in node.args.kw_defaults if value is not None]:
                ast.literal_eval(default)

    def test_l7_no_generator_expression_where_a_list_is_asked_for(self):
        for stem, node in nodes(ast.Call):
            if isinstance(node.func, ast.Name) and node.func.id in EAGER:
                for arg in node.args:
                    self.assertNotIsInstance(arg, ast.GeneratorExp, (stem, node.lineno))
                    if isinstance(arg, ast.Call):
                        name = getattr(arg.func, "id", getattr(arg.func, "attr", None))
                        self.assertNotIn(name, GENERATORS, (stem, node.lineno))

    def test_l8_builtins(self):
        own = {node.name for _, node in nodes((ast.FunctionDef, ast.ClassDef))}
        for stem, node in nodes(ast.Call):
            if isinstance(node.func, ast.Name) and hasattr(builtins, node.func.id):
                self.assertIn(node.func.id, CALLED_BUILTINS, (stem, node.lineno))
        for stem, node in nodes(ast.Call):
            if isinstance(node.func, ast.Attribute):
                self.assertIn(node.func.attr, own | LISTED_METHODS | {"__init__"}, (stem, node.lineno))

    def test_l15_l17_names(self):
        for stem, tree in TREES.items():
            taken = {node.name for node in ast.walk(tree) if isinstance(node, ast.ClassDef)}
            for node in ast.walk(tree):
                if isinstance(node, ast.ImportFrom):
                    taken |= {alias.name for alias in node.names}
            bound = {node.id for node in ast.walk(tree) if isinstance(node, ast.Name) and isinstance(node.ctx, ast.Store)}
            for node in ast.walk(tree):
                if isinstance(node, (ast.FunctionDef, ast.Lambda)):
                    bound |= set(parameters(node))
            self.assertEqual(bound & taken, set(), stem)
            top = {node.name for node in tree.body if isinstance(node, (ast.FunctionDef, ast.ClassDef))}
            for name in bound | top | taken:
                self.assertFalse(hasattr(builtins, name), (stem, name))
                self.assertFalse(name.startswith("__"), (stem, name))
            used = {node.attr for node in ast.walk(tree) if isinstance(node, ast.Attribute)}
            self.assertEqual((used | bound | top) & UNUSED_NAMES, set(), stem)

    def test_l12_names_of_classes(self):
        for stem, node in nodes(ast.ClassDef):
            self.assertTrue(node.name[0].isalpha(), (stem, node.name))

    def test_l12_the_lone_underscore_is_not_read(self):
        for stem, node in nodes(ast.Name):
            if node.id == "_":
                self.assertIsInstance(node.ctx, ast.Store, (stem, node.lineno))

    def test_l19_errors(self):
        errors = own_errors()
        for stem, node in nodes(ast.ExceptHandler):
            self.assertIsNotNone(node.type, stem)
            self.assertIn(ast.unparse(node.type), errors | set(CAUGHT), stem)
        for stem, node in nodes(ast.Raise):
            if node.exc is not None:
                self.assertIsInstance(node.exc, ast.Call, stem)
                self.assertIn(ast.unparse(node.exc.func), errors, stem)
                self.assertEqual(node.exc.keywords, [], stem)

    def test_l20_identity(self):
        for stem, node in nodes(ast.Compare):
            sides = [node.left] + node.comparators
            for at, sign in enumerate(node.ops):
                if isinstance(sign, (ast.Is, ast.IsNot)):
                    plain = isinstance(sides[at + 1], ast.Constant) and sides[at + 1].value in (None, True, False)
                    asked = ast.unparse(sides[at]).startswith("type(") and ast.unparse(sides[at + 1]).startswith("type(")
                    self.assertTrue(plain or asked, (stem, node.lineno))

    def test_l23_what_is_iterated_at_once(self):
        for stem, node in nodes((ast.Assign, ast.Return)):
            if isinstance(node.value, ast.Call) and isinstance(node.value.func, ast.Name):
                self.assertNotIn(node.value.func.id, ("zip", "enumerate", "reversed", "map"), (stem, node.lineno))

    def test_l23_what_a_loop_walks_is_not_changed_in_it(self):
        found = {stem: changed_walks(tree, GENERATORS) for stem, tree in TREES.items()}
        self.assertEqual({stem: found[stem] for stem in found if found[stem]}, {})

    def test_l23_the_test_sees_walks_that_are_changed(self):
        for head, change in (
            ("todo", "todo.append(x)"), ("todo", "fresh.append(x)"), ("reversed(todo)", "del fresh[0]"),
            ("self.rows", "self.rows[x] = 1"), ("self.rows[0].items()", "self.rows[0].pop(x)"), ("todo or ()", "fresh += [x]"),
            ("self.rows", "self.grow(x)"), ("all_lots(len(self.rows))", "self.found[x] = 1"),
            ("all_lots(todo)", "todo.append(x)"), ("list(all_lots(self.many))", "self.grow(x)"), ("todo", "heappush(todo, x)"),
            ("lots", "self.found[x] = 1"), ("lots", "self.grow(x)"), ("enumerate(lots)", "self.found[x] = 1"),
        ):
            self.assertEqual(changed_walks(self.loop_over(head, change), GENERATORS), [5], (head, change))
        for head, change in (
            ("todo", "other.append(x)"), ("list(todo)", "fresh.append(x)"), ("lots", "other[x] = 1"),
            ("list(lots)", "self.found[x] = 1"), ("list(lots)", "self.grow(x)"), ("all_lots(3)", "self.found[x] = 1"),
            ("list(self.rows)", "self.grow(x)"), ("todo[1:]", "todo.append(x)"),
        ):
            self.assertEqual(changed_walks(self.loop_over(head, change), GENERATORS), [], (head, change))

    def loop_over(self, head, change):
        """A file with a loop in its row 5; `todo` and `fresh` are names of one list."""
        return ast.parse(f"""class Box:
    def walk(self, todo, other):
        fresh = []
        lots = list(all_lots(len(self.rows)))
        for x in {head}:
            {change}
        todo = fresh

    def grow(self, x):
        self.rows.append(x)
""")

    def test_l24_sets(self):
        for stem, tree in TREES.items():
            for node in ast.walk(tree):
                for child in ast.iter_child_nodes(node):
                    is_set = isinstance(child, (ast.Set, ast.SetComp)) or (
                        isinstance(child, ast.Call) and ast.unparse(child.func) in ("set", "frozenset"))
                    if is_set:
                        self.assertTrue(self.holds_set(node), (stem, child.lineno))

    def holds_set(self, node):
        if isinstance(node, ast.Call):
            return ast.unparse(node.func) in ("sorted", "len")
        return isinstance(node, (ast.Compare, ast.BinOp)) or (
            isinstance(node, ast.Assign) and isinstance(node.targets[0], ast.Name))

    def test_l23_l25_names_of_generators_and_sorting(self):
        names = [node.name for _, node in functions()]
        for stem, node in functions():
            if any(isinstance(part, (ast.Yield, ast.YieldFrom)) for part in ast.walk(node)):
                self.assertEqual(names.count(node.name), 1, (stem, node.name))
        for stem, node in nodes(ast.Attribute):
            self.assertNotEqual(node.attr, "sort", stem)

    def test_l27_strings(self):
        docstrings = [
            node.body[0].value for _, node in nodes((ast.Module, ast.FunctionDef, ast.ClassDef))
            if node.body and isinstance(node.body[0], ast.Expr)
        ]
        for stem, node in nodes(ast.Constant):
            if isinstance(node.value, str) and node not in docstrings:
                self.assertNotIn("%", node.value, stem)
                self.assertFalse(node.value.startswith("__"), (stem, node.value))

    def test_l28_lengths(self):
        for stem, node in functions():
            if node.name == "__len__":
                self.assertTrue(ast.unparse(node.body[-1]).startswith("return len("), stem)
            if node.name == "__init__":
                self.assertFalse([part for part in ast.walk(node) if isinstance(part, ast.Return)], stem)

    def test_l5_names_of_properties_and_of_static_and_class_methods(self):
        plain, special = set(), set()
        for stem, node in nodes(ast.ClassDef):
            for part in node.body:
                if isinstance(part, ast.FunctionDef):
                    (special if part.decorator_list else plain).add(part.name)
        stored = {node.attr for _, node in nodes(ast.Attribute) if isinstance(node.ctx, ast.Store)}
        self.assertEqual(special & (plain | stored), set())

    def test_l7_what_stands_behind_a_star(self):
        for stem, node in nodes(ast.Call):
            for arg in node.args:
                if isinstance(arg, ast.Starred):
                    self.assertIsInstance(arg.value, (ast.Name, ast.Attribute), (stem, node.lineno))

    def test_l18_l26_attributes_and_methods(self):
        stored = {node.attr for _, node in nodes(ast.Attribute) if isinstance(node.ctx, ast.Store)}
        methods = {
            part.name: [ast.unparse(decorator) for decorator in part.decorator_list]
            for _, node in nodes(ast.ClassDef) for part in node.body if isinstance(part, ast.FunctionDef)
        }
        for name in stored & set(methods):
            self.assertEqual(methods[name], [], name)
        taken = {name for kind in (str, int, list, dict, set, bytes) for name in dir(kind)}
        free = set("count index title find get join lower upper split strip copy add".split())
        self.assertEqual({name for name in stored & taken if name not in free}, set())
