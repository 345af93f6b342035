"""The form of the package: the rules of LANGUAGE.md that can be seen by a reader of its files."""
import ast
import builtins
import pathlib
import warnings

from tests.base import Case

PACKAGE = pathlib.Path(__file__).resolve().parent.parent / "nearlords"
LIBRARY = {"heapq": {"heappush", "heappop"}, "math": {"gcd", "lcm", "isqrt", "comb", "perm", "factorial"},
           "itertools": {"combinations"}}
BUILTINS = {
    "len", "range", "enumerate", "zip", "min", "max", "sum", "abs", "sorted", "reversed", "int", "str", "bool",
    "list", "tuple", "dict", "set", "isinstance", "ord", "repr", "any", "all", "divmod", "ValueError",
}
METHODS = {"append", "extend", "remove", "pop", "items", "values", "keys", "get", "index", "count", "insert", "copy",
           "split", "join", "replace"}
# What L23 has walked on the spot: makers and views, and the calls that walk their first argument.
MAKERS = {"range", "zip", "enumerate", "reversed"}
VIEWS = {"items", "keys", "values"}
WALKERS = {"list", "tuple", "dict", "sorted", "sum", "any", "all", "enumerate", "zip", "min", "max", "combinations"}
# Where L23 lets some of them stand without being walked.
LET = {"len": {"range", "items"}, "reversed": {"range"}, "in": {"range", "keys"}}
OWN_ERRORS = {"Refused", "NotOrder", "Round"}
WORDS = ("type", "enum", "typing", "eval", "exec", "open", "input", "register", "elements", "law")
STATEMENTS = (
    ast.FunctionDef, ast.ClassDef, ast.Return, ast.Assign, ast.AugAssign, ast.For, ast.While, ast.If, ast.Raise,
    ast.Try, ast.Import, ast.ImportFrom, ast.Expr, ast.Pass, ast.Break, ast.Continue, ast.Delete, ast.Assert,
)


def files():
    """Return the paths of the files of the package."""
    return sorted(path for path in PACKAGE.rglob("*") if path.is_file() and "__pycache__" not in path.parts)


def trees():
    """Return the name of each module with its tree."""
    return [(path.stem, ast.parse(path.read_text())) for path in files()]


def nodes(kind):
    """Return all nodes of a kind with the name of their module."""
    return [(name, node) for name, tree in trees() for node in ast.walk(tree) if isinstance(node, kind)]


def methods(node):
    """Return the methods of a class."""
    return [part for part in node.body if isinstance(part, ast.FunctionDef)]


def called(node):
    """Return the bare name that a call calls, or None."""
    return node.func.id if isinstance(node.func, ast.Name) else None


def maker(node):
    """Return the name of the maker or view that a node calls, or None."""
    if not isinstance(node, ast.Call):
        return None
    if isinstance(node.func, ast.Attribute):
        return node.func.attr if node.func.attr in VIEWS else None
    return called(node) if called(node) in MAKERS else None


def walked_by_call(node):
    """Return what a call walks or may have as L23 tells, in a list of at most one."""
    first = node.args[:1]
    if isinstance(node.func, ast.Attribute):
        return first if node.func.attr == "join" and isinstance(node.func.value, ast.Constant) else []
    if called(node) in ("min", "max") and len(node.args) > 1:
        return []
    return [part for part in first if called(node) in WALKERS or maker(part) in LET.get(called(node), ())]


def walked(node):
    """Return the nodes that one node walks on the spot, or may have as L23 tells."""
    if isinstance(node, (ast.For, ast.comprehension)):
        return [node.iter]
    if isinstance(node, ast.Compare):
        return [right for sign, right in zip(node.ops, node.comparators)
                if isinstance(sign, (ast.In, ast.NotIn)) and maker(right) in LET["in"]]
    return walked_by_call(node) if isinstance(node, ast.Call) else []


def rows_not_walked(tree):
    """Return the rows of a tree in which a range, a zip or their like is not walked on the spot."""
    held = [part for node in ast.walk(tree) for part in walked(node)]
    return sorted({node.lineno for node in ast.walk(tree) if maker(node) and node not in held})


class Form(Case):

    def test_files(self):
        self.assertLessEqual(len(files()), 100)
        for path in files():
            self.assertEqual((path.parent, path.suffix), (PACKAGE, ".py"))
            self.assertEqual(path.name, path.name.lower())
        self.assertTrue((PACKAGE / "__init__.py").is_file())

    def test_lines_and_signs(self):
        for path in files():
            text = path.read_bytes()
            self.assertTrue(all(sign == 10 or 32 <= sign <= 126 for sign in text), path)
            lines = text.decode("ascii").split("\n")
            self.assertLessEqual(len(lines), 399)
            self.assertLessEqual(max(len(line) for line in lines), 120)
            with warnings.catch_warnings():
                warnings.simplefilter("error")
                compile(text, str(path), "exec")

    def test_functions_are_short_and_plain(self):
        for name, node in nodes(ast.FunctionDef):
            self.assertLessEqual(node.end_lineno - node.lineno + 1, 40, (name, node.name))
            self.assertEqual(node.decorator_list, [], (name, node.name))
            self.assertIsNone(node.returns)
            self.assertIsNotNone(ast.get_docstring(node) or node.name.startswith("__"), (name, node.name))

    def test_imports(self):
        graph = {}
        for name, tree in trees():
            graph[name] = set()
            for node in ast.walk(tree):
                self.assertNotIsInstance(node, ast.Import)
                if isinstance(node, ast.ImportFrom):
                    self.assertIn(node, tree.body)
                    self.check_import(graph[name], node)
        while graph:
            free = [name for name, needs in graph.items() if not needs & graph.keys()]
            self.assertTrue(free, f"these import from each other: {sorted(graph)}")
            for name in free:
                del graph[name]

    def check_import(self, needs, node):
        names = {alias.name for alias in node.names}
        self.assertTrue(all(alias.asname is None for alias in node.names))
        if node.module in LIBRARY:
            self.assertLessEqual(names, LIBRARY[node.module])
            return
        package, _, module = node.module.partition(".")
        self.assertEqual(package, "nearlords")
        tree = ast.parse((PACKAGE / f"{module}.py").read_text())
        bound = {n.name for n in tree.body if isinstance(n, (ast.FunctionDef, ast.ClassDef))}
        bound |= {t.id for n in tree.body if isinstance(n, ast.Assign) for t in n.targets}
        self.assertLessEqual(names, bound)
        needs.add(module)

    def test_imports_are_used(self):
        for name, tree in trees():
            used = {node.id for node in ast.walk(tree) if isinstance(node, ast.Name)}
            for node in ast.walk(tree):
                if isinstance(node, ast.ImportFrom):
                    self.assertLessEqual({alias.name for alias in node.names}, used, name)

    def test_module_level(self):
        for name, tree in trees():
            for node in tree.body[1:]:
                self.assertIsInstance(node, (ast.ImportFrom, ast.FunctionDef, ast.ClassDef, ast.Assign), name)
            self.assertIsNotNone(ast.get_docstring(tree), name)

    def test_statements_and_expressions(self):
        for name, node in nodes(ast.stmt):
            self.assertIsInstance(node, STATEMENTS, (name, node.lineno))
        for kind in (ast.GeneratorExp, ast.Yield, ast.YieldFrom, ast.Div, ast.Await, ast.Starred, ast.NamedExpr):
            self.assertEqual(nodes(kind), [])
        for name, node in nodes(ast.Constant):
            self.assertIsInstance(node.value, (int, str, type(None)), (name, node.lineno))
        for name, node in nodes(ast.Compare):
            for sign, right in zip(node.ops, node.comparators):
                if isinstance(sign, (ast.Is, ast.IsNot)):
                    self.assertIsInstance(right, ast.Constant, (name, node.lineno))

    def test_exponents_are_literals(self):
        for name, node in nodes((ast.BinOp, ast.AugAssign)):
            if isinstance(node.op, ast.Pow):
                self.assertIsInstance(getattr(node, "right", None), ast.Constant, (name, node.lineno))

    def test_sets_stand_only_where_they_may(self):
        for name, tree in trees():
            held = [call for node in ast.walk(tree) if isinstance(node, ast.Call) and called(node) in ("len", "sorted")
                    for arg in node.args for call in ast.walk(arg)]
            for node in ast.walk(tree):
                self.assertNotIsInstance(node, (ast.Set, ast.SetComp))
                if isinstance(node, ast.Call) and called(node) == "set":
                    self.assertIn(node, held, (name, node.lineno))

    def test_ranges_are_walked_on_the_spot(self):
        for name, tree in trees():
            self.assertEqual(rows_not_walked(tree), [], name)

    def test_ranges_handed_on_are_found(self):
        for row in ("return place_told(words[1], range(1, MOST + 1))", "told(range(3))", "told(choices=range(3))",
                    "deed = (up,) + tuple([place_told(word, range(MOST)) for word in words[1:]])",
                    "number = place_told(word, range(DOOR if sign == 'p' else 0, MOST))",
                    "row = range(3)", "rows = [range(3)]", "floor.told(range(3))", "return range(3)", "a, b = range(2)",
                    "told(zip(a, b))", "told(enumerate(a))", "told(reversed(a))", "told(d.items())", "told(d.keys())",
                    "told(d.values())", "a = b == range(3)", "k = max(0, range(3))", "k = len(zip(a, b))",
                    "k = reversed(d.items())", "for x in told(range(3)): pass", "k = sep.join(d.keys())",
                    "k = x in zip(a, b)", "told(lambda k: range(k))", "k = sum(a, range(3))", "k = set(d.values())"):
            self.assertEqual(rows_not_walked(ast.parse("k = 0\n" + row)), [2], row)

    def test_ranges_walked_are_let(self):
        for row in ("for x in range(3): pass", "a = [x for x in range(3)]", "a = {x: y for x, y in zip(b, c)}",
                    "told(list(range(3)))", "a = tuple(range(3))", "a = sum(list(d.values()))", "a = max(range(3))",
                    "for k, (x, y) in enumerate(zip(a, b)): pass", "for k in reversed(range(3)): pass",
                    "a = sorted(d.items())", "a = ' '.join(d.keys())", "a = len(range(3))", "a = x in range(3)",
                    "a = x not in d.keys()", "a = min(d.values(), default=0)",
                    "a = [b for b in combinations(range(3), 2)]"):
            self.assertEqual(rows_not_walked(ast.parse(row)), [], row)

    def test_names(self):
        every = set(dir(builtins))
        for name, tree in trees():
            imported = {a.name for node in ast.walk(tree) if isinstance(node, ast.ImportFrom) for a in node.names}
            classes = {node.name for node in ast.walk(tree) if isinstance(node, ast.ClassDef)}
            stored = [node.id for node in ast.walk(tree) if isinstance(node, ast.Name)
                      and not isinstance(node.ctx, ast.Load)]
            args = [node.arg for node in ast.walk(tree) if isinstance(node, ast.arg)]
            functions = [node.name for node in tree.body if isinstance(node, ast.FunctionDef)]
            for bound in stored + args + functions + sorted(classes):
                self.assertNotIn(bound, every, name)
                self.assertNotIn(bound, WORDS, name)
            self.assertEqual((imported | classes) & set(stored + args), set(), name)
            self.assertEqual(set(functions) & set(stored + args), set(), name)
            for node in ast.walk(tree):
                if isinstance(node, ast.Name) and isinstance(node.ctx, ast.Load) and node.id in every:
                    self.assertIn(node.id, BUILTINS, name)

    def test_words_in_strings(self):
        for name, tree in trees():
            docs = [node.body[0].value for node in ast.walk(tree)
                    if isinstance(node, (ast.Module, ast.ClassDef, ast.FunctionDef)) and ast.get_docstring(node)]
            for node in ast.walk(tree):
                if isinstance(node, ast.Constant) and isinstance(node.value, str):
                    self.assertNotIn("%", "" if node in docs else node.value)
                    if node not in docs:
                        self.assertFalse([word for word in WORDS if word in node.value], name)

    def test_methods_of_builtin_values(self):
        attributes = {node.attr for _, node in nodes(ast.Attribute) if isinstance(node.ctx, ast.Store)}
        own = {method.name for _, node in nodes(ast.ClassDef) for method in methods(node)}
        self.assertEqual(own & METHODS, set())
        for name, node in nodes(ast.Call):
            if isinstance(node.func, ast.Attribute):
                self.assertIn(node.func.attr, METHODS | own, (name, node.lineno))
        for name, node in nodes(ast.Attribute):
            self.assertIn(node.attr, METHODS | attributes | own, (name, node.lineno))

    def test_handlers_name_own_errors(self):
        for name, node in nodes(ast.ExceptHandler):
            self.assertIn(node.type.id, OWN_ERRORS, name)
        for name, node in nodes(ast.Raise):
            self.assertIsInstance(node.exc, ast.Call, name)

    def test_classes(self):
        for name, node in nodes(ast.ClassDef):
            attributes = {part.attr for part in ast.walk(node) if isinstance(part, ast.Attribute)
                          and isinstance(part.ctx, ast.Store)}
            self.assertEqual(attributes & {method.name for method in methods(node)}, set(), name)
            for method in methods(node):
                if method.name.startswith("__"):
                    self.assertIn(method.name, ("__init__", "__eq__"), name)
                if method.name == "__eq__":
                    self.assertEqual(len(method.body), 1)
                    self.assertTrue(ast.unparse(method.body[0]).startswith(f"return isinstance(other, {node.name})"))
                if method.name == "__init__":
                    self.assertEqual([part for part in ast.walk(method) if isinstance(part, ast.Return)], [])

    def test_lambdas_and_nested_functions(self):
        for name, node in nodes(ast.FunctionDef):
            inner = [part for part in ast.walk(node) if isinstance(part, ast.FunctionDef) and part is not node]
            self.assertEqual(inner, [], (name, node.name))
        lines = [(name, node.lineno) for name, node in nodes(ast.Lambda)]
        self.assertEqual(len(lines), len(set(lines)))

    def test_tables_at_module_level_are_only_read(self):
        for name, tree in trees():
            for table in [t.id for n in tree.body if isinstance(n, ast.Assign) and isinstance(n.value, ast.Dict)
                          for t in n.targets]:
                reads = [node for node in ast.walk(tree) if isinstance(node, ast.Attribute)
                         and isinstance(node.value, ast.Name) and node.value.id == table]
                uses = [node for node in ast.walk(tree) if isinstance(node, ast.Name) and node.id == table]
                self.assertEqual({node.attr for node in reads}, {"get"}, name)
                self.assertEqual(len(uses), len(reads) + 1, name)
