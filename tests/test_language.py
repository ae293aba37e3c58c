"""Some rules of the language that the files of the package are written in, as far as a search through them shows."""

import ast
import builtins
import pathlib
import unittest

FOLDER = pathlib.Path(__file__).resolve().parent.parent / "joinhouse"
FILES = sorted(FOLDER.rglob("*.py"))
LIBRARY = {
    "heapq": ("heappush", "heappop", "heapify", "heapreplace", "heappushpop"),
    "math": ("gcd", "lcm", "isqrt", "comb", "perm", "factorial"),
}
BUILTINS = set(
    "len range enumerate zip min max sum abs sorted reversed int str bool bytes list tuple dict set frozenset isinstance "
    "ord repr any all divmod iter next Exception ValueError TypeError KeyError IndexError LookupError ZeroDivisionError "
    "ArithmeticError OverflowError RuntimeError NotImplementedError AttributeError StopIteration NotImplemented map super "
    "property staticmethod classmethod object float".split()
)
METHODS = set(
    "append clear copy count endswith extend find get index insert isalnum isalpha isdigit islower isspace isupper items "
    "join keys ljust lower lstrip partition pop remove replace reverse rfind rjust rpartition rsplit rstrip setdefault "
    "split splitlines startswith strip update upper values zfill bit_length isascii add discard".split()
)
NO_ATTRIBUTES = set("items keys values pop update append clear extend insert remove reverse setdefault sort args encode "
                    "decode hex fromhex format format_map mro".split())
NO_NAMES = set("register mro elements open input law version_info with_traceback add_note eval exec exit dir id vars "
               "compile getattr setattr hasattr globals locals super type gc os sys".split())
NO_WORDS = set("type typing enum Enum IntEnum StrEnum Flag IntFlag Generic Protocol ABC ABCMeta namedtuple NamedTuple "
               "TypedDict abstractmethod".split())
OPERATORS = set("__add__ __mul__ __contains__ __len__ __eq__ __str__".split())
CHANGES = set("append clear extend insert pop remove reverse setdefault update".split())
# Objects that are created keep what they are created from.
CREATE = {"__init__", "Question", "Store", "Whence", "Scheme"}
DECORATORS = {"property", "classmethod", "staticmethod"}


def parsed():
    """The files with their trees, each node knowing what it stands in."""
    found = []
    for path in FILES:
        tree = ast.parse(path.read_text())
        for node in ast.walk(tree):
            for below in ast.iter_child_nodes(node):
                below.above = node
        found.append((path, tree))
    return found


TREES = parsed()
NODES = [(path, node) for path, tree in TREES for node in ast.walk(tree)]


def is_called(node, names):
    """Whether a node is a call of a plain name."""
    return isinstance(node, ast.Call) and isinstance(node.func, ast.Name) and node.func.id in names


def is_set(node):
    return isinstance(node, (ast.Set, ast.SetComp)) or is_called(node, {"set"})


def is_decorated(node, name):
    return any(isinstance(one, ast.Name) and one.id == name for one in node.decorator_list)


def root_of(node):
    """The name that an item or attribute is one of, however deep; the name itself."""
    while isinstance(node, (ast.Subscript, ast.Attribute)):
        node = node.value
    return node.id if isinstance(node, ast.Name) else None


def got_by_itself(node):
    """Whether `+=`, `|=`, `extend` or `update` gets what it changes, or an item or attribute of the same thing."""
    if isinstance(node, ast.AugAssign) and isinstance(node.op, (ast.Add, ast.BitOr)):
        changed, given = node.target, [node.value]
    elif isinstance(node, ast.Call) and isinstance(node.func, ast.Attribute) and node.func.attr in ("extend", "update"):
        changed, given = node.func.value, node.args
    else:
        return False
    root = root_of(changed)
    named = {below.id for one in given for below in ast.walk(one) if isinstance(below, ast.Name)}
    return root is not None and root in named


def is_made(node):
    """Whether an expression makes a list or dict that operators can change."""
    return isinstance(node, (ast.List, ast.ListComp, ast.Dict)) or is_called(node, {"list", "dict", "sorted"})


class LanguageTest(unittest.TestCase):

    def test_there_are_files(self):
        self.assertIn(FOLDER / "__init__.py", FILES)
        for folder in {path.parent for path in FILES}:
            self.assertIn(folder / "__init__.py", FILES)

    def test_sizes_and_characters(self):
        for path in FILES:
            text = path.read_bytes()
            self.assertTrue(all(byte == 10 or 32 <= byte <= 126 for byte in text), path)
            lines = text.decode("ascii").split("\n")
            self.assertLessEqual(len(lines) - 1, 399, path)
            self.assertLessEqual(max(len(line) for line in lines), 120, path)

    def test_sizes_of_functions(self):
        for path, node in NODES:
            if isinstance(node, ast.FunctionDef):
                self.assertLessEqual(node.end_lineno - node.lineno + 1, 40, (path, node.name))

    def test_imports(self):
        for path, node in NODES:
            self.assertNotIsInstance(node, ast.Import, path)
            if isinstance(node, ast.ImportFrom):
                names = [alias.name for alias in node.names]
                self.assertEqual([alias.asname for alias in node.names], [None] * len(names), path)
                if not node.module.startswith("joinhouse."):
                    self.assertLessEqual(set(names), set(LIBRARY.get(node.module, ())), path)
                else:
                    self.assert_defined(node.module, names)

    def assert_defined(self, module, names):
        """Checks that names are defined in the very file of a module."""
        path = FOLDER.parent / (module.replace(".", "/") + ".py")
        tree = dict(TREES)[path]
        defined = {node.name for node in tree.body if isinstance(node, (ast.FunctionDef, ast.ClassDef))}
        defined |= {node.targets[0].id for node in tree.body if isinstance(node, ast.Assign)}
        self.assertLessEqual(set(names), defined, path)

    def test_no_two_files_import_from_each_other(self):
        needs = {}
        for path, tree in TREES:
            name = ".".join(path.relative_to(FOLDER.parent).with_suffix("").parts)
            needs[name] = [node.module for node in tree.body if isinstance(node, ast.ImportFrom)]
        done = []
        while len(done) < len(needs):
            free = [name for name in needs if name not in done
                    and all(need in done or need not in needs for need in needs[name])]
            self.assertNotEqual(free, [])
            done.extend(free)

    def test_barred_statements(self):
        barred = (ast.Global, ast.AsyncFunctionDef, ast.AsyncFor, ast.AsyncWith, ast.Await, ast.Div)
        for path, node in NODES:
            self.assertNotIsInstance(node, barred, path)
            if isinstance(node, (ast.FunctionDef, ast.ClassDef)):
                names = {name.id for name in node.decorator_list if isinstance(name, ast.Name)}
                self.assertEqual(len(names), len(node.decorator_list))
                self.assertLessEqual(names, DECORATORS)

    def test_names(self):
        every = set(dir(builtins))
        for path, node in NODES:
            if isinstance(node, ast.Name):
                if isinstance(node.ctx, ast.Load):
                    self.assertTrue(node.id not in every or node.id in BUILTINS, (path, node.id, node.lineno))
                else:
                    self.assertNotIn(node.id, every | NO_NAMES, (path, node.lineno))
            if isinstance(node, ast.arg) or isinstance(node, (ast.FunctionDef, ast.ClassDef)):
                name = node.arg if isinstance(node, ast.arg) else node.name
                method = isinstance(node, ast.FunctionDef) and isinstance(node.above, ast.ClassDef)
                self.assertTrue(method or name not in every | NO_NAMES, (path, name))

    def test_local_names_are_no_names_of_the_file(self):
        for path, tree in TREES:
            above = {alias.name for node in tree.body if isinstance(node, ast.ImportFrom) for alias in node.names}
            above |= {node.name for node in tree.body if isinstance(node, ast.ClassDef)}
            for node in ast.walk(tree):
                if isinstance(node, ast.arg):
                    self.assertNotIn(node.arg, above, path)
                if isinstance(node, ast.Name) and isinstance(node.ctx, ast.Store):
                    self.assertNotIn(node.id, above, path)

    def test_methods_and_attributes(self):
        own = {node.name for _, node in NODES if isinstance(node, ast.FunctionDef)}
        properties = {node.name for _, node in NODES if isinstance(node, ast.FunctionDef)
                      and any(isinstance(name, ast.Name) and name.id == "property" for name in node.decorator_list)}
        for path, node in NODES:
            if isinstance(node, ast.Call) and isinstance(node.func, ast.Attribute):
                self.assertIn(node.func.attr, own | METHODS, (path, node.lineno))
            if isinstance(node, ast.Attribute) and isinstance(node.ctx, ast.Store):
                self.assertNotIn(node.attr, NO_ATTRIBUTES | properties | METHODS - {"count", "index"}, path)

    def test_names_of_properties_are_their_own(self):
        methods = [node for _, node in NODES if isinstance(node, ast.FunctionDef) and isinstance(node.above, ast.ClassDef)]
        properties = {node.name for node in methods if is_decorated(node, "property")}
        for node in methods:
            self.assertTrue(node.name not in properties or is_decorated(node, "property"), node.name)

    def test_operators_and_properties_change_nothing(self):
        functions = {node.name: node for _, node in NODES if isinstance(node, ast.FunctionDef)}
        todo = [node for node in functions.values() if is_decorated(node, "property") or node.name in OPERATORS]
        todo += [node for _, node in NODES if isinstance(node, ast.FunctionDef) and node.name in OPERATORS]
        seen = []
        while todo:
            node = todo.pop()
            if node not in seen:
                seen.append(node)
                made = {target.id for one in ast.walk(node) if isinstance(one, ast.Assign) and is_made(one.value)
                        for target in one.targets if isinstance(target, ast.Name)}
                for below in ast.walk(node):
                    self.assert_unchanged(node, below, made)
                    if isinstance(below, ast.Call):
                        name = below.func.id if isinstance(below.func, ast.Name) else getattr(below.func, "attr", "")
                        if name in functions and name not in CREATE:
                            todo.append(functions[name])
        self.assertGreater(len(seen), 30)

    def assert_unchanged(self, function, node, made):
        """Checks that a node changes nothing but what the function made."""
        if isinstance(node, (ast.Attribute, ast.Subscript)) and not isinstance(node.ctx, ast.Load):
            self.assertTrue(isinstance(node, ast.Subscript) and isinstance(node.value, ast.Name)
                            and node.value.id in made, (function.name, node.lineno))
        if isinstance(node, ast.Call) and isinstance(node.func, ast.Attribute) and node.func.attr in CHANGES:
            self.assertTrue(isinstance(node.func.value, ast.Name) and node.func.value.id in made,
                            (function.name, node.lineno))
        if isinstance(node, ast.AugAssign):
            self.assertIsInstance(node.value, ast.Constant, (function.name, node.lineno))

    def test_nothing_gets_what_it_changes(self):
        for path, node in NODES:
            self.assertFalse(got_by_itself(node), (path, getattr(node, "lineno", 0)))

    def test_what_gets_what_it_changes_is_found(self):
        bent = ("copies[other] += copies[one]", "copies[other] |= copies[one]", "box.many += box.few", "xs += xs",
                "rows[0][1] += sum(rows[1])", "xs.extend(xs)", "self.a.update(self.b)", "xs[0].extend([x for x in xs])")
        good = ("copies[other] = copies[other] + copies[one]", "copies[other] += more", "xs += [1]", "xs.extend(ys)",
                "self.many += 1", "copies[other] -= copies[one]", "seen.update({one: True})", "xs.append(xs[0])")
        for texts, told in ((bent, True), (good, False)):
            for text in texts:
                self.assertEqual(any(got_by_itself(node) for node in ast.walk(ast.parse(text))), told, text)

    def test_comparisons_and_texts_assign_nothing(self):
        for path, node in NODES:
            if isinstance(node, ast.FunctionDef) and node.name in ("__eq__", "__str__", "__repr__", "__len__"):
                for below in ast.walk(node):
                    self.assertNotIsInstance(below, (ast.Assign, ast.AugAssign, ast.Delete), (path, node.lineno))

    def test_powers_are_literal(self):
        for path, node in NODES:
            if isinstance(node, ast.BinOp) and isinstance(node.op, ast.Pow):
                self.assertIsInstance(node.right, ast.Constant, (path, node.lineno))

    def test_names_of_generators_are_their_own(self):
        functions = [node for _, node in NODES if isinstance(node, ast.FunctionDef)]
        names = [node.name for node in functions]
        for node in functions:
            if any(isinstance(below, (ast.Yield, ast.YieldFrom)) for below in ast.walk(node)):
                self.assertEqual(names.count(node.name), 1, node.name)

    def test_generators_are_iterated_at_once(self):
        made = {node.name for _, node in NODES if isinstance(node, ast.FunctionDef) and any(
            isinstance(below, (ast.Yield, ast.YieldFrom)) for below in ast.walk(node))}
        for path, node in NODES:
            if isinstance(node, ast.Call):
                name = node.func.id if isinstance(node.func, ast.Name) else getattr(node.func, "attr", "")
                if name in made:
                    self.assertIsInstance(node.above, (ast.For, ast.YieldFrom, ast.comprehension), (path, name))

    def test_no_generator_expressions(self):
        for path, node in NODES:
            self.assertNotIsInstance(node, ast.GeneratorExp, path)

    def test_sets(self):
        for path, node in NODES:
            if is_set(node):
                above = node.above
                good = is_called(above, {"sorted", "len"}) or isinstance(above, ast.Compare)
                self.assertTrue(good, (path, node.lineno))

    def test_views_are_iterated_at_once(self):
        good = {"list", "tuple", "dict", "sorted", "sum", "any", "all", "enumerate", "zip", "min", "max"}
        for path, node in NODES:
            view = isinstance(node, ast.Call) and isinstance(node.func, ast.Attribute) and node.func.attr in (
                "items", "keys", "values")
            if view or is_called(node, {"zip", "enumerate", "reversed", "range"}):
                above = node.above
                if isinstance(above, (ast.For, ast.comprehension)):
                    self.assertEqual(above.iter, node, (path, node.lineno))
                else:
                    self.assertTrue(is_called(above, good), (path, node.lineno))

    def test_is_and_strings(self):
        for path, node in NODES:
            if isinstance(node, ast.Compare):
                for sign, right in zip(node.ops, node.comparators):
                    if isinstance(sign, (ast.Is, ast.IsNot)):
                        self.assertTrue(isinstance(right, ast.Constant) and right.value in (None, True, False), path)
            if isinstance(node, ast.Constant) and isinstance(node.value, str):
                self.assertNotIn("%", node.value, path)
                if not isinstance(node.above, ast.Expr):
                    self.assertFalse(NO_WORDS & set(node.value.split()), path)

    def test_only_own_errors_are_caught(self):
        own = {node.name for node in dict(TREES)[FOLDER / "errors.py"].body if isinstance(node, ast.ClassDef)}
        for path, node in NODES:
            if isinstance(node, ast.Try):
                self.assertEqual((node.finalbody, node.orelse), ([], []), path)
            if isinstance(node, ast.ExceptHandler):
                self.assertIsInstance(node.type, ast.Name, path)
                self.assertIn(node.type.id, own, path)
            if isinstance(node, ast.FunctionDef):
                handlers = [below.name for below in ast.walk(node) if isinstance(below, ast.ExceptHandler) and below.name]
                bound = {below.id for below in ast.walk(node)
                         if isinstance(below, ast.Name) and isinstance(below.ctx, ast.Store)}
                bound |= {below.arg for below in ast.walk(node) if isinstance(below, ast.arg)}
                self.assertEqual(len(handlers), len(set(handlers)), (path, node.name))
                self.assertFalse(set(handlers) & bound, (path, node.name))

    def test_blocks_that_are_entered(self):
        entered = [node for _, node in NODES if isinstance(node, ast.With)]
        self.assertEqual(len(entered), 1)
        for node in entered:
            for item in node.items:
                self.assertIsInstance(item.context_expr, (ast.Call, ast.Name, ast.Attribute))
                self.assertIsInstance(item.optional_vars, ast.Name)
        for path, node in NODES:
            if isinstance(node, ast.FunctionDef) and node.name == "__exit__":
                self.assertEqual([one.arg for one in node.args.args], ["self", "kind", "value", "trace"])
                for row in node.body:
                    self.assertIsInstance(row, ast.Assign, path)
                    self.assertIsInstance(row.targets[0], ast.Attribute, path)
                    self.assertIsInstance(row.value, (ast.Attribute, ast.Name), path)

    def test_stars_in_calls(self):
        plain = (ast.Name, ast.Constant, ast.List, ast.Tuple, ast.Dict)
        for path, node in NODES:
            if isinstance(node, ast.Call):
                for one in node.args:
                    if isinstance(one, ast.Starred):
                        self.assertIsInstance(one.value, plain, (path, node.lineno))

    def test_methods_have_no_names_of_attributes(self):
        methods = {node.name for _, node in NODES if isinstance(node, ast.FunctionDef) and isinstance(node.above, ast.ClassDef)}
        stored = {node.attr for _, node in NODES if isinstance(node, ast.Attribute) and isinstance(node.ctx, ast.Store)}
        self.assertEqual(methods & stored, set())

    def test_raised_errors(self):
        for path, node in NODES:
            if isinstance(node, ast.Raise):
                self.assertTrue(isinstance(node.exc, ast.Call) and isinstance(node.exc.func, ast.Name), path)

    def test_module_level(self):
        plain = (ast.FunctionDef, ast.ClassDef, ast.ImportFrom, ast.Assign, ast.Expr)
        for path, tree in TREES:
            for node in tree.body:
                self.assertIsInstance(node, plain, path)
                if isinstance(node, ast.Expr):
                    self.assertIsInstance(node.value, ast.Constant, path)


if __name__ == "__main__":
    unittest.main()
