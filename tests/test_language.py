"""Tests that the package keeps the rules of ../shared/LANGUAGE.md which can be read off its code.

The tests are a net with wide meshes: they look for the slips that are easily made, rule by rule.
"""

import ast
import builtins
import pathlib
import re
import unittest

ROOT = pathlib.Path(__file__).resolve().parent.parent
PACKAGE = ROOT / "lagbound"

BUILTINS = set("""len range enumerate zip min max sum abs sorted reversed int str bool bytes list tuple dict set
frozenset isinstance ord repr any all divmod pow getattr hasattr setattr iter next map property staticmethod
classmethod super Exception ValueError TypeError KeyError IndexError LookupError ZeroDivisionError ArithmeticError
OverflowError RuntimeError NotImplementedError AttributeError StopIteration NotImplemented""".split())

METHODS = set("""append clear copy count endswith extend find get index insert isalnum isalpha isdigit islower isspace
isupper items join keys ljust lower lstrip partition pop remove replace reverse rfind rjust rpartition rsplit rstrip
setdefault split splitlines startswith strip update upper values zfill bit_length add discard sort""".split())

SPECIAL = set("""__init__ __eq__ __repr__ __str__ __len__ __iter__ __contains__ __and__ __or__ __invert__
__rshift__""".split())

LIBRARY = {"heapq": {"heappush", "heappop", "heapify"}, "math": {"gcd", "lcm", "isqrt", "comb"}}

STATEMENTS = (ast.Assign, ast.AugAssign, ast.AnnAssign, ast.If, ast.While, ast.For, ast.Return, ast.Break, ast.Continue,
              ast.Pass, ast.Raise, ast.Assert, ast.Delete, ast.Nonlocal, ast.Match, ast.Try, ast.Expr, ast.FunctionDef,
              ast.ClassDef, ast.ImportFrom)

BANNED_NAMES = {"register", "mro", "elements", "open", "input", "law", "version_info", "with_traceback", "add_note"}

BANNED_WORDS = set("""type typing typing_extensions enum Enum IntEnum StrEnum Flag IntFlag Generic Protocol ABC ABCMeta
namedtuple NamedTuple TypedDict TYPE_CHECKING abstractmethod dataclass overload contextmanager""".split())

STORED = (ast.Store, ast.Del)


def files():
    return sorted(PACKAGE.rglob("*.py"))


def trees():
    return [(path, ast.parse(path.read_text(encoding="utf-8"))) for path in files()]


def nodes(kinds):
    return [(path, node) for path, tree in trees() for node in ast.walk(tree) if isinstance(node, kinds)]


def arguments(function):
    told = function.args
    rows = told.posonlyargs + told.args + told.kwonlyargs + [told.vararg, told.kwarg]
    return [row.arg for row in rows if row is not None]


def bound_names(tree):
    """All names that a file gives a meaning to, imports apart."""
    names = []
    for node in ast.walk(tree):
        if isinstance(node, (ast.FunctionDef, ast.ClassDef)):
            names.append(node.name)
        if isinstance(node, (ast.FunctionDef, ast.Lambda)):
            names.extend(arguments(node))
        if isinstance(node, ast.Name) and isinstance(node.ctx, STORED):
            names.append(node.id)
    return names


def methods_of(tree):
    return [row for node in ast.walk(tree) if isinstance(node, ast.ClassDef)
            for row in node.body if isinstance(row, ast.FunctionDef)]


def docstrings(tree):
    rows = [node for node in ast.walk(tree) if isinstance(node, (ast.Module, ast.ClassDef, ast.FunctionDef))]
    return [row.body[0].value for row in rows if row.body and isinstance(row.body[0], ast.Expr)
            and isinstance(row.body[0].value, ast.Constant)]


CHANGING = {"append", "clear", "extend", "insert", "pop", "remove", "reverse", "setdefault", "update", "add", "discard", "sort"}


def functions():
    """All functions and methods of the package, as pairs of the file and the definition."""
    return nodes(ast.FunctionDef)


def assigned_attributes():
    """The names of all attributes that some class keeps, and of all properties."""
    kept = {node.attr for _, node in nodes(ast.Attribute) if isinstance(node.ctx, ast.Store)}
    return kept | {node.name for _, node in functions() if node.decorator_list}


def run_by_operators():
    """The functions that operators, properties and __len__ run, through all calls by names that are known."""
    classes = {row.name: row for _, tree in trees() for row in tree.body if isinstance(row, ast.ClassDef)}
    known = {}
    for path, node in functions():
        known.setdefault(node.name, []).append((path, node))
    waiting = [(path, node) for path, tree in trees() for node in methods_of(tree)
               if node.decorator_list or node.name in SPECIAL - {"__init__"}]
    found = {}
    while waiting:
        path, node = waiting.pop()
        if id(node) in found:
            continue
        found[id(node)] = (path, node)
        for call in [row for row in ast.walk(node) if isinstance(row, ast.Call)]:
            name = call.func.id if isinstance(call.func, ast.Name) else call.func.attr
            if name in classes:
                waiting.extend((path, row) for row in classes[name].body if getattr(row, "name", "") == "__init__")
            elif isinstance(call.func, ast.Name):
                waiting.extend(known.get(name, []))
    return list(found.values())


def created_only(function, name):
    """Whether a local variable is only ever assigned a new list or dict."""
    values = [row.value for row in ast.walk(function) if isinstance(row, ast.Assign)
              for target in row.targets if isinstance(target, ast.Name) and target.id == name]
    new = (ast.List, ast.Dict, ast.ListComp, ast.DictComp)
    loops = [row for row in ast.walk(function) if isinstance(row, ast.For)
             and name in {part.id for part in ast.walk(row.target) if isinstance(part, ast.Name)}]
    return bool(values) and not loops and name not in arguments(function) and all(isinstance(row, new) for row in values)


class Language(unittest.TestCase):
    def none(self, found, rule):
        self.assertEqual(found, [], rule)

    def told(self, rows):
        return [f"{path.name}:{node.lineno}" for path, node in rows]

    def test_l1_l14_files(self):
        rows = [path for path in PACKAGE.rglob("*") if "__pycache__" not in path.parts]
        self.none([path for path in rows if path.is_file() and not re.fullmatch(r"[a-z_][a-z0-9_]*\.py", path.name)], "L1")
        self.assertIn(PACKAGE / "__init__.py", rows)
        self.none([path for path in rows if path.stem in dir(builtins) or path.stem.startswith(("test", "law_"))], "L14")
        for path in files():
            self.assertRegex(path.read_bytes(), rb"\A[ -~\n]*\Z", f"{path.name}: L14")

    def test_l2_l16_imports(self):
        homes, edges = {}, {}
        for path, tree in trees():
            homes["lagbound." + path.stem] = {row.name for row in tree.body if isinstance(row, (ast.FunctionDef, ast.ClassDef))} | {
                target.id for row in tree.body if isinstance(row, ast.Assign) for target in row.targets}
        self.none(self.told(nodes(ast.Import)), "L2")
        for path, node in nodes(ast.ImportFrom):
            where = f"{path.name}:{node.lineno}"
            self.assertEqual(node.level, 0, where)
            known = homes.get(node.module) or LIBRARY.get(node.module, set())
            for alias in node.names:
                self.assertIsNone(alias.asname, where)
                self.assertIn(alias.name, known, where)
            edges.setdefault("lagbound." + path.stem, []).append(node.module)
        rest = {name: [module for module in edges.get(name, []) if module in homes] for name in homes}
        while rest:
            free = [name for name, modules in rest.items() if not any(module in rest for module in modules)]
            self.assertTrue(free, "L16: files import each other")
            rest = {name: modules for name, modules in rest.items() if name not in free}

    def test_unused_imports(self):
        for path, tree in trees():
            used = {node.id for node in ast.walk(tree) if isinstance(node, ast.Name)}
            imported = {alias.name for row in tree.body if isinstance(row, ast.ImportFrom) for alias in row.names}
            self.assertEqual(imported - used, set(), path.name)

    def test_l3_module_level(self):
        for path, tree in trees():
            for at, row in enumerate(tree.body):
                where = f"{path.name}:{row.lineno}: L3"
                if isinstance(row, ast.Expr):
                    self.assertEqual(at, 0, where)
                elif isinstance(row, ast.Assign):
                    self.assertEqual([type(target) for target in row.targets], [ast.Name], where)
                else:
                    self.assertIsInstance(row, (ast.ImportFrom, ast.FunctionDef, ast.ClassDef), where)

    def test_l4_l5_decorators_and_methods(self):
        for path, node in nodes((ast.FunctionDef, ast.ClassDef)):
            for row in node.decorator_list:
                self.assertIn(ast.unparse(row), ("property", "staticmethod", "classmethod"), f"{path.name}:{row.lineno}")
        for path, tree in trees():
            special = [row for row in methods_of(tree) if row.name.startswith("__")]
            self.none([row.name for row in special if row.name not in SPECIAL], f"{path.name}: L5")
            for row in special:
                if row.name == "__len__":
                    self.assertRegex(ast.unparse(row.body[-1]), r"\Areturn len\(.*\)\Z", path.name)
                    self.assertEqual(len(row.body), 1, path.name)
                if row.name == "__iter__":
                    self.assertEqual(len(row.body), 1, path.name)
                    self.assertRegex(ast.unparse(row.body[0]), r"\Areturn iter\(self\.\w+\)\Z", path.name)

    def test_l5_what_operators_run(self):
        kept = assigned_attributes()
        rows = run_by_operators()
        self.assertTrue({"moved", "least_tables", "chained", "run_over", "checked_rows"} <= {node.name for _, node in rows})
        for path, function in rows:
            local = set(arguments(function)) | {row.id for row in ast.walk(function)
                                                if isinstance(row, ast.Name) and isinstance(row.ctx, STORED)}
            for node in ast.walk(function):
                where = f"{path.name}:{getattr(node, 'lineno', 0)}: L5"
                if isinstance(node, ast.Call) and isinstance(node.func, ast.Name):
                    self.assertNotIn(node.func.id, local, where)
                if isinstance(node, ast.Call) and isinstance(node.func, ast.Attribute):
                    self.assertIn(node.func.attr, METHODS, where)
                    self.assertNotIn(node.func.attr, kept, where)
                    if node.func.attr in CHANGING:
                        self.assertIsInstance(node.func.value, ast.Name, where)
                        self.assertTrue(created_only(function, node.func.value.id), where)
                if isinstance(node, ast.Subscript) and isinstance(node.ctx, STORED):
                    self.assertIsInstance(node.value, ast.Name, where)
                    self.assertTrue(created_only(function, node.value.id), where)
                if isinstance(node, ast.Attribute) and isinstance(node.ctx, STORED):
                    self.assertEqual((function.name, node.value.id), ("__init__", "self"), where)
                if isinstance(node, ast.AugAssign):
                    self.assertIsInstance(node.target, ast.Name, where)
                    self.assertIsInstance(node.value, ast.Constant, where)
                self.assertNotIsInstance(node, (ast.Lambda, ast.Delete), where)

    def test_l28_what_len_gives(self):
        for path, tree in trees():
            for row in methods_of(tree):
                if row.name == "__len__":
                    self.assertNotRegex(ast.unparse(row.body[-1]), r"\Areturn len\(range\(", f"{path.name}: L28")

    def test_l6_statements(self):
        self.none(self.told([(path, node) for path, node in nodes(ast.stmt) if not isinstance(node, STATEMENTS)]), "L6")
        self.none(self.told(nodes((ast.Global, ast.Await, ast.Yield, ast.YieldFrom))), "L6, and no generators here")

    def test_l7_expressions(self):
        self.none(self.told([row for row in nodes(ast.BinOp) if isinstance(row[1].op, (ast.Div, ast.MatMult))]), "L7")
        self.none(self.told([row for row in nodes(ast.Constant) if isinstance(row[1].value, (float, complex))]), "L7")
        takers = ("list", "tuple", "dict", "sorted", "sum", "min", "max", "any", "all")
        direct = []
        for _, node in nodes(ast.Call):
            name = node.func.id if isinstance(node.func, ast.Name) else node.func.attr
            if name in takers or name == "join" and isinstance(node.func.value, ast.Constant):
                direct.extend(id(row) for row in node.args)
            if name == "sorted":
                self.assertFalse([row for row in node.args if isinstance(row, ast.GeneratorExp)], "L5: sorted takes a list")
        for path, tree in trees():
            inside = {id(row) for node in ast.walk(tree) if isinstance(node, ast.Call) for row in node.args}
            for node in ast.walk(tree):
                if isinstance(node, ast.GeneratorExp):
                    self.assertIn(id(node), inside, f"{path.name}:{node.lineno}: L7")
                    calls = [row for row in ast.walk(tree) if isinstance(row, ast.Call) and node in row.args]
                    named = [row.func.id if isinstance(row.func, ast.Name) else row.func.attr for row in calls]
                    self.assertIn(named[0], takers + ("join",), f"{path.name}:{node.lineno}: L7")

    def test_l8_l15_builtins(self):
        for path, tree in trees():
            imported = [alias.name for row in tree.body if isinstance(row, ast.ImportFrom) for alias in row.names]
            classes = [row.name for row in tree.body if isinstance(row, ast.ClassDef)]
            bound = bound_names(tree)
            self.none([name for name in bound + imported if name in dir(builtins)], f"{path.name}: L15")
            self.none([name for name in bound if name in imported], f"{path.name}: L15")
            self.none([name for name in set(bound) if name in classes and bound.count(name) > 1], f"{path.name}: L15")
            for node in ast.walk(tree):
                if isinstance(node, ast.Name) and node.id in dir(builtins):
                    self.assertIn(node.id, BUILTINS, f"{path.name}:{node.lineno}: L8")

    def test_l9_l17_words(self):
        for path, tree in trees():
            told = {id(row) for row in docstrings(tree)}
            for node in ast.walk(tree):
                words = []
                if isinstance(node, ast.Constant) and isinstance(node.value, str) and id(node) not in told:
                    words = re.findall(r"\w+", node.value)
                elif isinstance(node, ast.Name):
                    words = [node.id]
                elif isinstance(node, ast.Attribute):
                    words = [node.attr]
                self.none([word for word in words if word in BANNED_WORDS], f"{path.name}:{node.lineno}: L17" if words else "")
                if not isinstance(node, ast.Constant):
                    self.none([word for word in words if word in BANNED_NAMES], f"{path.name}: L17")
            self.none([name for name in bound_names(tree) if name in BANNED_NAMES], f"{path.name}: L17")

    def test_l10_sizes(self):
        for path in files():
            lines = path.read_text().split("\n")
            self.assertLessEqual(len(lines), 399, path.name)
            self.none([at for at, line in enumerate(lines, 1) if len(line) > 120 or "\t" in line], f"{path.name}: L10")
        for path, node in nodes(ast.FunctionDef):
            self.assertLessEqual(node.end_lineno - node.lineno + 1, 40, f"{path.name}: {node.name}")

    def test_l12_names(self):
        for path, tree in trees():
            for name in bound_names(tree):
                good = name == "_" or name in SPECIAL or re.fullmatch(r"_?[A-Za-z][A-Za-z0-9_]*", name)
                self.assertTrue(good, f"{path.name}: {name}")
            read = [node for node in ast.walk(tree) if isinstance(node, ast.Name) and node.id == "_"]
            self.none([node.lineno for node in read if isinstance(node.ctx, ast.Load)], f"{path.name}: L12")

    def test_l18_attributes(self):
        assigned, properties, methods = set(), set(), set()
        for path, tree in trees():
            for row in methods_of(tree):
                (properties if row.decorator_list else methods).add(row.name)
            for node in ast.walk(tree):
                if isinstance(node, ast.Attribute) and isinstance(node.ctx, ast.Store):
                    self.assertIsInstance(node.value, ast.Name, f"{path.name}:{node.lineno}: L18")
                    assigned.add(node.attr)
        self.assertEqual(assigned & properties, set())
        self.assertEqual(methods & properties, set())
        for path, node in nodes(ast.Attribute):
            known = assigned | properties | methods | METHODS
            self.assertIn(node.attr, known, f"{path.name}:{node.lineno}: L18, L25")
        for name in properties:
            self.assertNotIn(name, METHODS, "L5")

    def test_l19_errors(self):
        for path, node in nodes(ast.Raise):
            self.assertTrue(node.exc is None or isinstance(node.exc, ast.Call), f"{path.name}:{node.lineno}: L19")
            self.assertFalse(node.exc and node.exc.keywords, f"{path.name}:{node.lineno}: L19")

    def test_l20_is(self):
        for path, node in nodes(ast.Compare):
            for sign, side in zip(node.ops, node.comparators):
                if isinstance(sign, (ast.Is, ast.IsNot)):
                    self.assertIsInstance(side, ast.Constant, f"{path.name}:{node.lineno}: L20")

    def test_l21_annotations(self):
        found = [(path, node) for path, node in nodes(ast.FunctionDef) if node.returns]
        found += [(path, node) for path, node in nodes(ast.arg) if node.annotation] + nodes(ast.AnnAssign)
        self.none(self.told(found), "L21: prefer none")

    def test_l23_iterated_at_once(self):
        takers = ("list", "tuple", "dict", "sorted", "sum", "any", "all", "enumerate", "zip", "min", "max", "join", "reversed",
                  "len")
        for path, tree in trees():
            allowed = set()
            for node in ast.walk(tree):
                if isinstance(node, (ast.For, ast.comprehension)):
                    allowed.add(id(node.iter))
                if isinstance(node, ast.Call) and node.args:
                    name = node.func.id if isinstance(node.func, ast.Name) else node.func.attr
                    if name in takers:
                        allowed.add(id(node.args[0]))
                if isinstance(node, ast.Compare):
                    allowed.update(id(side) for side in node.comparators)
            for node in ast.walk(tree):
                if isinstance(node, ast.Call):
                    name = node.func.id if isinstance(node.func, ast.Name) else node.func.attr
                    if name in ("zip", "enumerate", "reversed", "range", "map", "items", "keys", "values"):
                        self.assertIn(id(node), allowed, f"{path.name}:{node.lineno}: L23")

    def test_l23_what_is_walked_is_not_changed(self):
        fresh = (ast.List, ast.ListComp)
        for path, node in nodes(ast.Call):
            if isinstance(node.func, ast.Attribute) and node.func.attr in ("extend", "update"):
                given = node.args[0]
                copied = isinstance(given, ast.Call) and isinstance(given.func, ast.Name) and given.func.id in ("list", "dict")
                self.assertTrue(copied or isinstance(given, fresh), f"{path.name}:{node.lineno}: L23")
        for path, node in nodes(ast.For):
            walked = {row.id for row in ast.walk(node.iter) if isinstance(row, ast.Name)}
            walked |= {row.attr for row in ast.walk(node.iter) if isinstance(row, ast.Attribute)}
            for row in [part for line in node.body for part in ast.walk(line)]:
                changed = None
                if isinstance(row, ast.Call) and isinstance(row.func, ast.Attribute) and row.func.attr in CHANGING:
                    changed = row.func.value
                if isinstance(row, ast.Subscript) and isinstance(row.ctx, STORED):
                    changed = row.value
                name = getattr(changed, "id", getattr(changed, "attr", None))
                self.assertNotIn(name, walked, f"{path.name}:{getattr(row, 'lineno', 0)}: L23")

    def test_l23_names_of_one_list_are_not_walked_and_changed(self):
        for path, function in functions():
            names = {}
            for node in ast.walk(function):
                if isinstance(node, ast.Assign) and isinstance(node.value, ast.Name):
                    for target in node.targets:
                        if isinstance(target, ast.Name):
                            group = names.get(target.id, {target.id}) | names.get(node.value.id, {node.value.id})
                            names.update({name: group for name in group})
            for loop in [node for node in ast.walk(function) if isinstance(node, ast.For)]:
                walked = {row.id for row in ast.walk(loop.iter) if isinstance(row, ast.Name)}
                walked = {name for told in walked for name in names.get(told, {told})}
                for row in [part for line in loop.body for part in ast.walk(line)]:
                    changed = None
                    if isinstance(row, ast.Call) and isinstance(row.func, ast.Attribute) and row.func.attr in CHANGING:
                        changed = row.func.value
                    if isinstance(row, ast.Subscript) and isinstance(row.ctx, STORED):
                        changed = row.value
                    self.assertNotIn(getattr(changed, "id", None), walked, f"{path.name}:{getattr(row, 'lineno', 0)}: L23")

    def test_l23_sums_are_written_out(self):
        for path, node in nodes(ast.AugAssign):
            self.assertIsInstance(node.target, ast.Name, f"{path.name}:{node.lineno}: L23")
            self.assertIsInstance(node.value, ast.Constant, f"{path.name}:{node.lineno}: L23")

    def test_l24_sets(self):
        for path, tree in trees():
            allowed = set()
            for node in ast.walk(tree):
                if isinstance(node, ast.Call) and isinstance(node.func, ast.Name) and node.func.id in ("sorted", "len"):
                    allowed.add(id(node.args[0]))
                if isinstance(node, ast.Compare):
                    allowed.update(id(side) for side in [node.left] + node.comparators)
                if isinstance(node, ast.Assign) and isinstance(node.targets[0], ast.Name):
                    allowed.add(id(node.value))
            for node in ast.walk(tree):
                call = isinstance(node, ast.Call) and isinstance(node.func, ast.Name) and node.func.id == "set"
                if call or isinstance(node, (ast.Set, ast.SetComp)):
                    self.assertIn(id(node), allowed, f"{path.name}:{node.lineno}: L24")

    def test_l25_keywords(self):
        for path, node in nodes(ast.Call):
            if isinstance(node.func, ast.Attribute) and node.func.attr in METHODS:
                self.assertEqual(node.keywords, [], f"{path.name}:{node.lineno}: L25")

    def test_l27_numbers_and_strings(self):
        for path, tree in trees():
            for node in ast.walk(tree):
                if isinstance(node, ast.BinOp) and isinstance(node.op, ast.Pow):
                    self.assertIsInstance(node.right, ast.Constant, f"{path.name}:{node.lineno}: L27")
                if isinstance(node, ast.Constant) and isinstance(node.value, str):
                    self.assertNotIn("%", node.value, f"{path.name}:{node.lineno}: L27")
                    self.assertFalse(re.search(r"\A__.*__\Z|\._+\Z", node.value), f"{path.name}:{node.lineno}: L27")
            self.assertFalse(re.search(r"\\[^nt\\\"']", path.read_text()), f"{path.name}: L27")

    def test_comments_and_docstrings(self):
        for path, tree in trees():
            self.assertTrue(ast.get_docstring(tree), path.name)
            for row in tree.body:
                if isinstance(row, (ast.FunctionDef, ast.ClassDef)):
                    self.assertTrue(ast.get_docstring(row), f"{path.name}: {row.name}")
