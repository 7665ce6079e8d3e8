"""What can be seen from outside of the rules of the language (L1 to L28), for all files of the package."""

import ast
import builtins
import re
import unittest
import warnings
from pathlib import Path

from swornlots import errors
from walks import changed_walks

PACKAGE = Path(__file__).resolve().parent.parent / "swornlots"
FILES = sorted(PACKAGE.rglob("*.py"))
BUILTINS = set("""len range enumerate zip min max sum abs sorted reversed int str bool bytes list tuple dict set isinstance ord repr any
all divmod map iter next property classmethod staticmethod super Exception ValueError TypeError KeyError IndexError LookupError
ZeroDivisionError ArithmeticError OverflowError RuntimeError NotImplementedError AttributeError StopIteration
NotImplemented""".split())
METHODS = set("""append clear copy count endswith extend find get index insert isalnum isalpha isdigit islower isspace isupper items join
keys ljust lower lstrip partition pop remove replace reverse rfind rjust rpartition rsplit rstrip setdefault split splitlines startswith
strip update upper values zfill bit_length""".split())
DUNDERS = set("""init eq repr str len enter exit call iter lt le gt ge ne add sub mul floordiv mod pow and or xor lshift rshift neg pos
invert abs bool contains getitem setitem""".split())
LIBRARY = {"heapq": {"heappush", "heappop", "heapify"}, "math": {"gcd", "lcm", "isqrt", "comb", "perm", "factorial"}}
STATEMENTS = (
    ast.Assign, ast.AugAssign, ast.If, ast.While, ast.For, ast.Return, ast.Break, ast.Continue, ast.Pass, ast.Raise, ast.Assert, ast.Delete,
    ast.With, ast.Try, ast.Expr, ast.FunctionDef, ast.ClassDef, ast.ImportFrom)
NO_EXPRESSIONS = (
    ast.GeneratorExp, ast.Await, ast.AsyncFor, ast.Global, ast.Nonlocal, ast.NamedExpr, ast.Match, ast.AnnAssign, ast.JoinedStr)
BANNED_NAMES = set("""register mro elements open input law version_info with_traceback add_note attrgetter breakpoint builtins compile
copyright credits delattr dir eval exec exit gc getattr globals hasattr help id importlib license locals methodcaller os quit setattr type
vars sys format format_map""".split())
BANNED_WORDS = set("""type typing typing_extensions enum Enum IntEnum StrEnum Flag IntFlag Generic Protocol ABC ABCMeta namedtuple
NamedTuple TypedDict TYPE_CHECKING abstractmethod""".split())
PROPERTIES = {"pair", "deeds", "opening", "unknowns", "marks", "lots", "text", "sealed", "next_number", "acts",
              "packs", "lines"}
OWN_ERRORS = {name for name, made in vars(errors).items() if isinstance(made, type)}
PLAIN = (ast.Constant, ast.List, ast.Tuple, ast.Dict, ast.UnaryOp, ast.USub, ast.Load)


def tree_of(path):
    with warnings.catch_warnings():
        warnings.simplefilter("error")
        return ast.parse(path.read_text(encoding="utf-8"))


def without_docstrings(tree):
    """The tree, in which docstrings are no strings any more."""
    for node in ast.walk(tree):
        if isinstance(node, (ast.Module, ast.ClassDef, ast.FunctionDef)) and ast.get_docstring(node) is not None:
            node.body[0].value = ast.Constant(None)
    return tree


class Language(unittest.TestCase):
    def each(self):
        for path in FILES:
            with self.subTest(path.name):
                yield path, tree_of(path)

    def nodes(self, kind):
        for path, tree in self.each():
            for node in ast.walk(without_docstrings(tree)):
                if isinstance(node, kind):
                    yield path, node

    def test_files(self):
        self.assertTrue(FILES)
        for path in PACKAGE.rglob("*"):
            if "__pycache__" not in path.parts:
                self.assertTrue(path.is_file() and re.fullmatch(r"[a-z0-9_]+\.py", path.name), path)
        for path in FILES:
            text = path.read_text(encoding="utf-8")
            self.assertTrue(all(c == "\n" or " " <= c <= "~" for c in text), path)
            lines = text.splitlines()
            self.assertLess(len(lines), 400, path)
            self.assertLessEqual(max(map(len, lines)), 120, path)
            self.assertNotIn(path.stem, {*dir(builtins), "test", "tests", "testing", "site", "conftest", "math", "heapq", "itertools"})
            for word in ("Meta", "metaclass=", "(type)", "_wall", "dataclass", "overload", "contextmanager"):
                self.assertNotIn(word, text)

    def test_sizes_of_functions(self):
        for path, node in self.nodes(ast.FunctionDef):
            self.assertLessEqual(node.end_lineno - node.lineno + 1, 40, (path, node.name))

    def test_imports(self):
        for path, node in self.nodes((ast.Import, ast.ImportFrom)):
            self.assertIsInstance(node, ast.ImportFrom)
            self.assertEqual(node.level, 0)
            names = {alias.name for alias in node.names}
            self.assertTrue(all(alias.asname is None for alias in node.names))
            if node.module in LIBRARY:
                self.assertTrue(names <= LIBRARY[node.module])
                continue
            self.assertRegex(node.module, r"^swornlots\.[a-z0-9_]+$")
            there = tree_of(PACKAGE / (node.module.split(".")[1] + ".py"))
            known = {thing.name for thing in there.body if isinstance(thing, (ast.FunctionDef, ast.ClassDef))}
            known |= {thing.targets[0].id for thing in there.body if isinstance(thing, ast.Assign)}
            self.assertTrue(names <= known, (path, names - known))

    def test_every_import_is_used(self):
        for path, tree in self.each():
            used = {node.id for node in ast.walk(tree) if isinstance(node, ast.Name)}
            for node in tree.body:
                if isinstance(node, ast.ImportFrom):
                    self.assertTrue({alias.name for alias in node.names} <= used, (path, node.module))

    def test_no_rings_of_imports(self):
        needs = {}
        for path, tree in self.each():
            needs[path.stem] = {node.module.split(".")[1] for node in tree.body
                                if isinstance(node, ast.ImportFrom) and node.module.startswith("swornlots.")}
        done = set()
        while len(done) < len(needs):
            ready = {name for name in needs if name not in done and needs[name] <= done}
            self.assertTrue(ready, set(needs) - done)
            done |= ready

    def test_module_level(self):
        for path, tree in self.each():
            bound = []
            for k, node in enumerate(tree.body):
                if isinstance(node, ast.Expr):
                    self.assertTrue(k == 0 and isinstance(node.value, ast.Constant))
                elif isinstance(node, ast.Assign):
                    self.assertTrue(len(node.targets) == 1 and isinstance(node.targets[0], ast.Name))
                    self.assertTrue(all(isinstance(part, PLAIN) for part in ast.walk(node.value)), (path, node.lineno))
                    bound.append(node.targets[0].id)
                elif isinstance(node, ast.ImportFrom):
                    bound += [alias.name for alias in node.names]
                else:
                    self.assertIsInstance(node, (ast.FunctionDef, ast.ClassDef))
                    bound.append(node.name)
            self.assertEqual(len(bound), len(set(bound)), path)
            self.assertFalse(set(bound) & (set(dir(builtins)) - {"__doc__"}), path)

    def test_statements_and_expressions(self):
        for path, node in self.nodes(ast.AST):
            where = (path, getattr(node, "lineno", 0))
            if isinstance(node, ast.stmt):
                self.assertIsInstance(node, STATEMENTS, where)
            self.assertNotIsInstance(node, NO_EXPRESSIONS, where)
            self.assertNotIsInstance(node, (ast.Div, ast.MatMult), where)
            if isinstance(node, ast.Constant):
                self.assertNotIsInstance(node.value, (float, bytes, complex), where)
            if isinstance(node, ast.Set):
                self.assertFalse(any(isinstance(part, ast.Starred) for part in node.elts), where)
            if isinstance(node, ast.Pow):
                self.fail(where)

    def test_decorators(self):
        for path, node in self.nodes((ast.FunctionDef, ast.ClassDef)):
            names = [ast.unparse(one) for one in node.decorator_list]
            self.assertTrue(set(names) <= {"property", "classmethod", "staticmethod"} and len(names) < 2, (path, node.name))
            if isinstance(node, ast.ClassDef):
                self.assertEqual(names, [])

    def test_names(self):
        """All names that are read are bound in the file or are allowed builtins; none that is bound is barred."""
        for path, tree in self.each():
            bound = {alias.name for node in tree.body if isinstance(node, ast.ImportFrom) for alias in node.names}
            read = set()
            for node in ast.walk(tree):
                if isinstance(node, ast.Name):
                    (read if isinstance(node.ctx, ast.Load) else bound).add(node.id)
                elif isinstance(node, (ast.FunctionDef, ast.ClassDef)):
                    bound.add(node.name)
                elif isinstance(node, ast.arg):
                    bound.add(node.arg)
                elif isinstance(node, ast.ExceptHandler) and node.name:
                    bound.add(node.name)
            self.assertTrue(read - bound <= BUILTINS, (path, read - bound - BUILTINS))
            self.assertFalse("_" in read, path)
            for name in bound:
                self.assertRegex(name, r"^(_?[A-Za-z][A-Za-z0-9_]*|_|__[a-z]+__)$", path)
                self.assertNotIn(name, BANNED_NAMES, path)

    def test_names_of_builtins_and_imports_keep_their_meaning(self):
        for path, tree in self.each():
            taken = set(dir(builtins)) | {node.name for node in tree.body if isinstance(node, ast.ClassDef)}
            taken |= {alias.name for node in tree.body if isinstance(node, ast.ImportFrom) for alias in node.names}
            for node in ast.walk(tree):
                if isinstance(node, ast.arg):
                    self.assertNotIn(node.arg, taken, (path, node.lineno))
                if isinstance(node, ast.Name) and isinstance(node.ctx, ast.Store):
                    self.assertNotIn(node.id, taken, (path, node.lineno))

    def test_calls(self):
        """Methods are own ones or those of L25; any, all and the like take no generators."""
        own = {node.name for _, node in self.nodes(ast.FunctionDef)}
        for path, node in self.nodes(ast.Call):
            where = (path, node.lineno)
            if isinstance(node.func, ast.Attribute):
                self.assertIn(node.func.attr, own | METHODS, where)
            if isinstance(node.func, ast.Name) and node.func.id == "reversed":
                self.assertEqual(ast.unparse(node.args[0].func), "list", where)
            if isinstance(node.func, ast.Name) and node.func.id in ("any", "all", "sum"):
                self.assertIsInstance(node.args[0], ast.ListComp, where)

    def test_stars_in_calls(self):
        """A star stands before a name or an attribute off a name; so does what stands behind it, or it is a literal of such."""
        plain = (ast.Name, ast.Attribute, ast.Constant, ast.Tuple, ast.List, ast.Load)
        for path, node in self.nodes(ast.Call):
            stars = [k for k, part in enumerate(node.args) if isinstance(part, ast.Starred)]
            if stars:
                for part in [*node.args[stars[0]:], *[told.value for told in node.keywords]]:
                    inner = part.value if isinstance(part, ast.Starred) else part
                    self.assertTrue(all(isinstance(one, plain) for one in ast.walk(inner)), (path, node.lineno))

    def test_sets(self):
        """A set stands in sorted, in len, behind in, or is assigned to a name once."""
        for path, tree in self.each():
            for node in ast.walk(tree):
                for child in ast.iter_child_nodes(node):
                    is_call = isinstance(child, ast.Call) and isinstance(child.func, ast.Name) and child.func.id == "set"
                    if isinstance(child, (ast.Set, ast.SetComp)) or is_call:
                        good = isinstance(node, (ast.Compare, ast.Assign)) or (
                            isinstance(node, ast.Call) and ast.unparse(node.func) in ("sorted", "len"))
                        self.assertTrue(good, (path, child.lineno))

    def test_is(self):
        for path, node in self.nodes(ast.Compare):
            for sign, right in zip(node.ops, node.comparators):
                if isinstance(sign, (ast.Is, ast.IsNot)):
                    self.assertTrue(isinstance(right, ast.Constant) and right.value in (None, True, False), (path, node.lineno))

    def test_classes(self):
        stored = set()
        methods = set()
        for path, node in self.nodes(ast.ClassDef):
            names = [part.name for part in node.body if isinstance(part, ast.FunctionDef)]
            self.assertEqual(len(names), len(set(names)), (path, node.name))
            methods |= set(names)
            for name in names:
                if name.startswith("__"):
                    self.assertIn(name.strip("_"), DUNDERS)
            if "__getitem__" in names:
                self.assertIn("__iter__", names)
            for part in ast.walk(node):
                if isinstance(part, ast.Attribute) and isinstance(part.ctx, ast.Store):
                    stored.add(part.attr)
        self.assertFalse(stored & (METHODS - set("count index find get join lower upper split strip copy".split())))
        self.assertFalse(stored & methods, stored & methods)
        self.assertFalse(stored & PROPERTIES)
        self.assertFalse({"keys", "add", "discard"} & (stored | methods))

    def test_strings(self):
        for path, node in self.nodes(ast.Constant):
            if isinstance(node.value, str):
                self.assertNotIn("%", node.value, path)
                self.assertFalse(node.value.endswith(("._", ".__")), path)
                self.assertFalse(node.value.startswith("__"), path)
                self.assertFalse(set(re.findall(r"\w+", node.value)) & (BANNED_WORDS - {"type"}), path)
        for path, node in self.nodes(ast.Name):
            self.assertNotIn(node.id, BANNED_WORDS, path)

    def test_errors(self):
        """What is caught are own errors only; what is raised is created on the spot."""
        for path, node in self.nodes((ast.ExceptHandler, ast.Raise)):
            if isinstance(node, ast.Raise):
                self.assertTrue(isinstance(node.exc, ast.Call) and isinstance(node.exc.func, ast.Name), (path, node.lineno))
            else:
                self.assertIn(ast.unparse(node.type), OWN_ERRORS, (path, node.lineno))

    def test_what_loops_walk_is_not_changed(self):
        for path, tree in self.each():
            self.assertEqual(changed_walks(tree), [], path)

    def test_changed_walks_are_seen(self):
        for head, change, seen in (
                ("for x in rows", "rows.append(x)", True), ("for x in rows", "rows[0] = x", True), ("for x in rows", "del rows[0]", True),
                ("for x in rows", "rows += [x]", True), ("for x in rows", "heappush(rows, x)", True), ("for x in rows", "left.append(x)", True),
                ("for x in rows", "last.append(x)", True), ("for k, x in enumerate(rows)", "rows.pop()", True),
                ("for k, x in box.rows.items()", "box.rows[k] = x", True), ("for k, x in box.rows.items()", "held.pop(k)", True),
                ("for x in (rows if box else other)", "other.append(x)", True), ("for x in rows or other", "other.append(x)", True),
                ("for x in list(rows)", "rows.append(x)", False), ("for x in rows", "other.append(x)", False),
                ("for x in rows", "box.rows.append(x)", False), ("for x in rows", "x = rows[0]", False),
                ("for k, x in box.rows.items()", "other[k] = x", False)):
            code = f"def f(rows, box, other):\n    held = box.rows\n    last = left = []\n    while box:\n        {head}:\n" \
                   f"            {change}\n        rows, box = left, 1\n"
            with self.subTest(head=head, change=change):
                self.assertEqual(changed_walks(ast.parse(code)), [6] if seen else [])
        self.assertEqual(changed_walks(ast.parse("def f(rows):\n    return [rows.pop() for x in rows]\n")), [2])


if __name__ == "__main__":
    unittest.main()
