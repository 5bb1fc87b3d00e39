"""The rules of ../shared/LANGUAGE.md, as far as they are easily looked at, and the names of the interface."""

import ast
import builtins
import io
import tokenize
import unittest
from pathlib import Path

PACKAGE = Path(__file__).resolve().parent.parent / "rillweb"

LIBRARY = {"heapq": "heappush heappop heapify heapreplace heappushpop", "math": "gcd lcm isqrt comb perm factorial",
           "itertools": "product combinations permutations chain accumulate pairwise islice zip_longest",
           "collections": "deque defaultdict"}
BUILTINS = set("""len range enumerate zip min max sum abs sorted reversed int str bool list tuple dict set isinstance
    ord repr any all divmod iter next map super ValueError KeyError IndexError LookupError TypeError
    ZeroDivisionError StopIteration""".split())
METHODS = set("""append clear copy count endswith extend find get index insert items join keys pop remove replace
    reverse setdefault split startswith strip update values bit_length add discard appendleft popleft""".split())
DOUBLE = set("__init__ __eq__ __repr__ __str__ __len__".split())
BARRED = set("""type typing enum Enum Generic Protocol ABC namedtuple NamedTuple TypedDict dataclass overload
    register mro elements open input law eval exec exit globals locals vars id dir compile chr pow frozenset print
    float bytes breakpoint""".split())
NODES_BARRED = (ast.AsyncFunctionDef, ast.Await, ast.Global, ast.Div, ast.MatMult, ast.AnnAssign, ast.TryStar,
                ast.Import)
ERRORS_CAUGHT = {"KeyError", "ZeroDivisionError"}

INTERFACE = {
    "errors.py": {name: None for name in """RillError NoShare NoCourse NoDay TooLong NoWeb NoDepths NoRain NoDigs
        NoTurned NoPlace NoBed NoTie""".split()},
    "shares.py": {"Share": "self top bottom", "plus": "one other", "minus": "one other", "times": "one other",
                  "over": "one other", "less": "one other"},
    "courses.py": {"Course": "self stretches", "on": "course day", "sum_to": "course days",
                   "first_unlike": "one other", "end": "course", "added": "courses", "taken": "share course",
                   "later": "course days"},
    "webs.py": {"Web": "self many beds parts", "borne": "web depths * rain", "water": "web depths * rain",
                "step": "web depths * rain"},
    "runs.py": {"Run": "self web depths * rains digs turned", "settled": "one other place"},
    "chances.py": {"ties_of": "run days", "turn": "run day place", "matters": "run day place"},
    "back.py": {"before": "web depths * rain", "rains_between": "web depths later * place",
                "before_any": "web depths * place"},
    "digs.py": {"fewest": "web depths * rains bed most", "margin": "run place"},
    "putting.py": {"cut": "web place", "joined": "one other * pipes"},
    "alike.py": {"apart_on": "one other * pairs", "apart_within": "one depths other others * places pairs days"},
}
METHODS_OF_RUN = {"water_of": "self place", "borne_by": "self bed", "leads": "self place", "moves": "self bed",
                  "ties": "self place", "depth_on": "self bed day", "got_by": "self place days",
                  "end_of": "self place", "wins": "self place", "drift": "self bed"}


TEXTS = [(path, path.read_text(encoding="utf-8")) for path in sorted(PACKAGE.rglob("*.py"))]
FILES = [(path, text, ast.parse(text)) for path, text in TEXTS]
NODES = [(f"{path.name}:{getattr(node, 'lineno', 0)}", node) for path, _, tree in FILES for node in ast.walk(tree)]


def called(node):
    """The name that a node calls, None where it is no call of a name."""
    return node.func.id if isinstance(node, ast.Call) and isinstance(node.func, ast.Name) else None


class TestFiles(unittest.TestCase):
    def test_the_folder_contains_nothing_else(self):
        for path in PACKAGE.rglob("*"):
            if "__pycache__" not in path.parts:
                self.assertTrue(path.is_dir() or path.suffix == ".py", path)
                self.assertRegex(path.stem, r"^(__init__|[a-z][a-z0-9_]*)$")
                self.assertFalse(path.stem.startswith("test"), path)
        self.assertTrue((PACKAGE / "__init__.py").exists())

    def test_signs_and_lengths(self):
        for path, text, _ in FILES:
            rows = text.split("\n")
            self.assertLessEqual(len(rows), 399, path)
            for number, row in enumerate(rows, 1):
                self.assertLessEqual(len(row), 120, (path, number))
                self.assertTrue(all(" " <= sign <= "~" for sign in row), (path, number))

    def test_lengths_of_functions(self):
        for place, node in NODES:
            if isinstance(node, ast.FunctionDef):
                self.assertLessEqual(node.end_lineno - node.lineno + 1, 40, place)
                self.assertEqual(node.decorator_list, [], place)

    def test_strings(self):
        for path, _, tree in FILES:
            for node in ast.walk(tree):
                if isinstance(node, ast.Constant) and isinstance(node.value, str):
                    self.assertNotIn("%", node.value, (path, node.lineno))
                    self.assertFalse(node.value.startswith("__") and node.value.endswith("__"), (path, node.lineno))
                    self.assertFalse(node.value.endswith(("._", ".__")), (path, node.lineno))
                if isinstance(node, ast.Constant):
                    self.assertNotIsInstance(node.value, (float, complex, bytes), (path, node.lineno))

    def test_words_that_do_not_occur(self):
        for path, text, _ in FILES:
            for token in tokenize.generate_tokens(io.StringIO(text).readline):
                if token.type == tokenize.NAME:
                    self.assertNotIn(token.string, BARRED, (path, token.start))
                    self.assertTrue(not token.string.startswith("__") or token.string in DOUBLE, (path, token.start))


class TestImports(unittest.TestCase):
    def imports(self, path, tree):
        """The names that a file imports from each other file of the package."""
        found = {}
        for node in tree.body:
            if isinstance(node, ast.ImportFrom):
                self.assertEqual(node.level, 0, path)
                self.assertTrue(all(name.asname is None for name in node.names), path)
                found.setdefault(node.module, []).extend(name.name for name in node.names)
        return found

    def test_only_at_the_top_and_by_full_names(self):
        for path, _, tree in FILES:
            at_top = [node for node in tree.body if isinstance(node, ast.ImportFrom)]
            self.assertEqual([node for node in ast.walk(tree) if isinstance(node, ast.ImportFrom)], at_top, path)
            body = [node for node in tree.body if not isinstance(node, ast.Expr)]
            self.assertEqual(body[:len(at_top)], at_top, path)

    def test_from_the_library_or_the_file_that_defines_the_name(self):
        for path, _, tree in FILES:
            for module, names in self.imports(path, tree).items():
                if module in LIBRARY:
                    self.assertLessEqual(set(names), set(LIBRARY[module].split()), path)
                    continue
                self.assertTrue(module.startswith("rillweb."), (path, module))
                there = ast.parse((PACKAGE / (module.split(".", 1)[1] + ".py")).read_text(encoding="utf-8"))
                defined = {node.name for node in there.body if isinstance(node, (ast.FunctionDef, ast.ClassDef))}
                defined |= {node.targets[0].id for node in there.body if isinstance(node, ast.Assign)}
                self.assertLessEqual(set(names), defined, (path, module))

    def test_all_that_is_imported_is_used(self):
        for path, _, tree in FILES:
            used = {node.id for node in ast.walk(tree) if isinstance(node, ast.Name)}
            for names in self.imports(path, tree).values():
                self.assertLessEqual(set(names), used, path)

    def test_no_two_files_import_from_each_other(self):
        wants = {"rillweb." + path.stem: set(self.imports(path, tree)) - set(LIBRARY) for path, _, tree in FILES}
        while wants:
            free = [module for module, others in wants.items() if not others & set(wants)]
            self.assertTrue(free, wants)
            for module in free:
                del wants[module]


class TestCode(unittest.TestCase):
    def test_module_level(self):
        for path, _, tree in FILES:
            bound = []
            for node in tree.body:
                self.assertIsInstance(node, (ast.Expr, ast.ImportFrom, ast.FunctionDef, ast.ClassDef, ast.Assign), path)
                if isinstance(node, ast.Expr):
                    self.assertIsInstance(node.value, ast.Constant, path)
                elif isinstance(node, ast.Assign):
                    self.assertEqual(len(node.targets), 1, path)
                    bound.append(node.targets[0].id)
                elif isinstance(node, ast.ImportFrom):
                    bound += [name.name for name in node.names]
                else:
                    bound.append(node.name)
            self.assertEqual(len(bound), len(set(bound)), path)

    def test_no_node_that_is_barred(self):
        for place, node in NODES:
            self.assertNotIsInstance(node, NODES_BARRED, place)

    def test_classes(self):
        for path, _, tree in FILES:
            classes = [node for node in ast.walk(tree) if isinstance(node, ast.ClassDef)]
            self.assertEqual(classes, [node for node in tree.body if isinstance(node, ast.ClassDef)], path)
            for node in classes:
                self.assertEqual(node.decorator_list, [])
                methods = [part.name for part in node.body if isinstance(part, ast.FunctionDef)]
                self.assertEqual(len(methods), len(set(methods)), node.name)
                stored = {part.attr for part in ast.walk(node)
                          if isinstance(part, ast.Attribute) and isinstance(part.ctx, ast.Store)}
                self.assertFalse(stored & set(methods), node.name)

    def test_no_name_is_a_method_and_an_attribute(self):
        methods = {part.name for _, node in NODES if isinstance(node, ast.ClassDef)
                   for part in node.body if isinstance(part, ast.FunctionDef)}
        for place, node in NODES:
            if isinstance(node, ast.Attribute) and isinstance(node.ctx, ast.Store):
                self.assertNotIn(node.attr, methods, place)

    def test_what_eq_runs_changes_nothing(self):
        functions = {node.name: node for _, node in NODES if isinstance(node, ast.FunctionDef)}
        for _, node in NODES:
            if isinstance(node, ast.FunctionDef) and node.name == "__eq__":
                reached, wanted = set(), [node]
                while wanted:
                    now = wanted.pop()
                    reached.add(now.name)
                    self.changes_nothing(now)
                    for part in ast.walk(now):
                        if called(part) in functions and called(part) not in reached:
                            wanted.append(functions[called(part)])

    def changes_nothing(self, function):
        """A function changes by += no more than by a literal number, and but lists that it made itself."""
        made = {node.targets[0].id for node in ast.walk(function) if isinstance(node, ast.Assign)
                and isinstance(node.targets[0], ast.Name) and isinstance(node.value, (ast.List, ast.ListComp))}
        for node in ast.walk(function):
            place = (function.name, getattr(node, "lineno", 0))
            self.assertNotIsInstance(node, (ast.Yield, ast.YieldFrom, ast.Delete, ast.Global), place)
            if isinstance(node, ast.AugAssign):
                self.assertIsInstance(node.target, ast.Name, place)
                self.assertIsInstance(node.value, ast.Constant, place)
            if isinstance(node, (ast.Attribute, ast.Subscript)):
                self.assertIsInstance(node.ctx, ast.Load, place)
            if isinstance(node, ast.Call) and isinstance(node.func, ast.Attribute):
                self.assertEqual(node.func.attr, "append", place)
                self.assertIn(node.func.value.id, made, place)

    def test_names(self):
        for place, node in NODES:
            names = []
            if isinstance(node, (ast.FunctionDef, ast.ClassDef)):
                names = [node.name]
            elif isinstance(node, ast.arg):
                names = [node.arg]
            elif isinstance(node, ast.Name) and not isinstance(node.ctx, ast.Load):
                names = [node.id]
            for name in names:
                self.assertFalse(hasattr(builtins, name) and name not in DOUBLE, (place, name))

    def test_no_local_name_is_bound_at_module_level(self):
        for path, _, tree in FILES:
            taken = {name.name for node in tree.body if isinstance(node, ast.ImportFrom) for name in node.names}
            taken |= {node.name for node in tree.body if isinstance(node, (ast.ClassDef, ast.FunctionDef))}
            for node in ast.walk(tree):
                if isinstance(node, ast.arg):
                    self.assertNotIn(node.arg, taken, path)
                if isinstance(node, ast.Name) and isinstance(node.ctx, ast.Store):
                    self.assertNotIn(node.id, taken, path)

    def test_builtins(self):
        for place, node in NODES:
            if isinstance(node, ast.Name) and hasattr(builtins, node.id):
                self.assertIn(node.id, BUILTINS, place)

    def test_methods_of_builtin_values(self):
        own = {node.name for _, node in NODES if isinstance(node, ast.FunctionDef)}
        for place, node in NODES:
            if isinstance(node, ast.Call) and isinstance(node.func, ast.Attribute):
                self.assertIn(node.func.attr, METHODS | own | {"__init__"}, place)

    def test_attributes_that_are_read_are_assigned(self):
        assigned = {node.attr for _, node in NODES
                    if isinstance(node, ast.Attribute) and isinstance(node.ctx, ast.Store)}
        called_off = [node.func for _, node in NODES if isinstance(node, ast.Call)]
        for place, node in NODES:
            if isinstance(node, ast.Attribute) and isinstance(node.ctx, ast.Load) and node not in called_off:
                self.assertIn(node.attr, assigned, place)

    def test_is_stands_beside_none_and_truths(self):
        for place, node in NODES:
            if isinstance(node, ast.Compare):
                for sign, right in zip(node.ops, node.comparators):
                    if isinstance(sign, (ast.Is, ast.IsNot)):
                        self.assertIsInstance(right, ast.Constant, place)
                        self.assertIn(right.value, (None, True, False), place)

    def test_lists_instead_of_generator_expressions(self):
        # Both shares and courses have an __eq__ (L7).
        for place, node in NODES:
            if called(node) in ("any", "all", "min", "max", "sum", "sorted"):
                self.assertFalse([part for part in node.args if isinstance(part, ast.GeneratorExp)], place)

    def test_sets_only_where_they_may_stand(self):
        fine = [part for _, node in NODES if called(node) in ("sorted", "len") for part in node.args]
        fine += [part for _, node in NODES if isinstance(node, ast.Compare) for part in node.comparators]
        for place, node in NODES:
            if isinstance(node, (ast.Set, ast.SetComp)):
                self.assertIn(node, fine, place)

    def test_exponents_are_literals(self):
        for place, node in NODES:
            if isinstance(node, ast.BinOp) and isinstance(node.op, ast.Pow):
                self.assertIsInstance(node.right, ast.Constant, place)
                self.assertIn(node.right.value, range(65), place)

    def test_errors_are_raised_on_the_spot_and_caught_by_name(self):
        own = set(INTERFACE["errors.py"])
        for place, node in NODES:
            if isinstance(node, ast.Raise) and node.exc is not None:
                self.assertIn(called(node.exc), own, place)
            if isinstance(node, ast.ExceptHandler):
                self.assertIsInstance(node.type, ast.Name, place)
                self.assertIn(node.type.id, own | ERRORS_CAUGHT, place)

    def test_generators_are_iterated_at_once(self):
        makers = {node.name for _, node in NODES if isinstance(node, ast.FunctionDef)
                  and any(isinstance(part, (ast.Yield, ast.YieldFrom)) for part in ast.walk(node))}
        at_once = [node.iter for _, node in NODES if isinstance(node, (ast.For, ast.comprehension))]
        for place, node in NODES:
            if called(node) in makers:
                self.assertIn(node, at_once, place)

    def test_ranges_and_zips_are_iterated_at_once(self):
        fine = [node.iter for _, node in NODES if isinstance(node, (ast.For, ast.comprehension))]
        takers = ("list", "tuple", "dict", "sorted", "enumerate", "zip")
        fine += [part for _, node in NODES if called(node) in takers for part in node.args]
        for place, node in NODES:
            if called(node) in ("zip", "enumerate", "reversed", "range"):
                self.assertIn(node, fine, place)


class TestInterface(unittest.TestCase):
    def test_each_is_defined_where_it_is_listed(self):
        for name, listed in INTERFACE.items():
            tree = ast.parse((PACKAGE / name).read_text(encoding="utf-8"))
            defined = {node.name: node for node in tree.body if isinstance(node, (ast.FunctionDef, ast.ClassDef))}
            for word, arguments in listed.items():
                self.assertIn(word, defined, name)
                if arguments is not None:
                    self.assertEqual(self.arguments(defined[word]), arguments.split(), word)

    def arguments(self, node):
        """The names of the arguments of a function, or of a class."""
        if isinstance(node, ast.ClassDef):
            node = [part for part in node.body if isinstance(part, ast.FunctionDef) and part.name == "__init__"][0]
        names = [argument.arg for argument in node.args.args]
        by_name = [argument.arg for argument in node.args.kwonlyargs]
        return names + ["*"] + by_name if by_name else names

    def test_the_methods_of_a_run_stand_in_its_class(self):
        tree = ast.parse((PACKAGE / "runs.py").read_text(encoding="utf-8"))
        run = [node for node in tree.body if isinstance(node, ast.ClassDef) and node.name == "Run"][0]
        methods = {node.name: self.arguments(node) for node in run.body if isinstance(node, ast.FunctionDef)}
        for name, arguments in METHODS_OF_RUN.items():
            self.assertEqual(methods.get(name), arguments.split(), name)

    def test_each_function_and_class_is_described(self):
        for path, _, tree in FILES:
            self.assertTrue(ast.get_docstring(tree), path)
            for node in tree.body:
                if isinstance(node, (ast.FunctionDef, ast.ClassDef)):
                    self.assertTrue(ast.get_docstring(node), (path, node.name))
