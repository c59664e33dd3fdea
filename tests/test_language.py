"""Whether the package keeps to the rules of LANGUAGE.md, as far as the code shows it."""

import ast
import builtins
import os
import unittest

ROOT = os.path.join(os.path.dirname(os.path.dirname(os.path.abspath(__file__))), "towerback")

LIBRARY = {"math": {"gcd", "lcm", "isqrt", "comb", "perm", "factorial"}}
BUILTINS = set(
    "len range enumerate zip min max sum abs sorted reversed int str bool list tuple dict set isinstance ord repr any"
    " all divmod pow ValueError".split()
)
METHODS = set(
    "append clear copy count endswith extend find get index insert isalnum isalpha isdigit islower isspace isupper"
    " items join keys ljust lower lstrip partition pop remove replace reverse rfind rjust rpartition rsplit rstrip"
    " setdefault split splitlines startswith strip update upper values zfill bit_length".split()
)
BARRED = set(
    "register mro elements open input law version_info with_traceback add_note attrgetter breakpoint builtins compile"
    " copyright credits delattr dir eval exec exit gc globals help id importlib license locals methodcaller os quit"
    " super type vars sys".split()
)
WORDS = set(
    "type typing typing_extensions enum Enum IntEnum StrEnum Flag IntFlag Generic Protocol ABC ABCMeta namedtuple"
    " NamedTuple TypedDict TYPE_CHECKING abstractmethod dataclass overload contextmanager".split()
)
STATEMENTS = (
    ast.Module, ast.Import, ast.ImportFrom, ast.FunctionDef, ast.ClassDef, ast.Assign, ast.AugAssign, ast.If, ast.While,
    ast.For, ast.Return, ast.Break, ast.Continue, ast.Raise, ast.Try, ast.Expr,
)
VIEWS = ("zip", "enumerate", "reversed", "range")
TAKERS = ("list", "tuple", "dict", "sorted", "sum", "any", "all", "enumerate", "zip", "min", "max")
# An interactive reading, as of an example, gives "_" a meaning among the builtins.
BUILTIN_NAMES = set(dir(builtins)) - {"_"}
ERRORS = {name for name in vars(builtins) if isinstance(getattr(builtins, name), type)}


def files():
    """Return the names of all that is in the package, but for compiled files."""
    return sorted(name for name in os.listdir(ROOT) if name != "__pycache__")


def read(name):
    """Return the text of a file of the package."""
    with open(os.path.join(ROOT, name), encoding="utf-8") as file:
        return file.read()


def bound_names(tree):
    """Return the names that a tree assigns, as targets, parameters, functions or classes."""
    names = []
    for node in ast.walk(tree):
        if isinstance(node, ast.Name) and not isinstance(node.ctx, ast.Load):
            names.append(node.id)
        elif isinstance(node, ast.arg):
            names.append(node.arg)
        elif isinstance(node, (ast.FunctionDef, ast.ClassDef)):
            names.append(node.name)
        elif isinstance(node, ast.ExceptHandler) and node.name is not None:
            names.append(node.name)
    return names


def top_names(tree):
    """Return the names that a module binds at its top."""
    names = []
    for node in tree.body:
        if isinstance(node, (ast.Import, ast.ImportFrom)):
            names.extend(alias.asname or alias.name for alias in node.names)
        elif isinstance(node, (ast.FunctionDef, ast.ClassDef)):
            names.append(node.name)
        elif isinstance(node, ast.Assign):
            names.append(node.targets[0].id)
    return names


def parsed():
    """Return the list of all files, each with its text and its tree, whose nodes know their parents."""
    found = []
    for name in files():
        tree = ast.parse(read(name))
        for node in ast.walk(tree):
            for child in ast.iter_child_nodes(node):
                child.parent = node
        found.append((name, read(name), tree))
    return found


class Language(unittest.TestCase):
    def test_files(self):
        names = files()
        self.assertLessEqual(len(names), 100)
        self.assertIn("__init__.py", names)
        for name in names:
            self.assertRegex(name, r"^(__init__|[a-z][a-z0-9_]*)\.py$")
            self.assertNotIn(name[:-3], BUILTIN_NAMES)
            self.assertNotIn(name[:-3], BARRED)

    def test_characters_and_sizes(self):
        for name, text, tree in parsed():
            with self.subTest(name):
                self.assertTrue(all(" " <= char <= "~" or char == "\n" for char in text))
                lines = text.split("\n")
                self.assertLessEqual(len(lines), 400)
                self.assertLessEqual(max(map(len, lines)), 120)
                for node in ast.walk(tree):
                    if isinstance(node, ast.FunctionDef):
                        self.assertLessEqual(node.end_lineno - node.lineno + 1, 40, node.name)

    def test_imports(self):
        uses = {}
        for name, _, tree in parsed():
            with self.subTest(name):
                uses[name] = set()
                for node in ast.walk(tree):
                    self.assertNotIsInstance(node, ast.Import)
                    if isinstance(node, ast.ImportFrom):
                        self.assertIs(node.parent, tree)
                        self.assertTrue(all(alias.asname is None for alias in node.names))
                        self.check_import(node, uses[name])
        while uses:
            free = [name for name in uses if not uses[name] & set(uses)]
            self.assertTrue(free, "files import from each other: " + " ".join(uses))
            for name in free:
                del uses[name]

    def check_import(self, node, used):
        names = {alias.name for alias in node.names}
        if node.module in LIBRARY:
            self.assertLessEqual(names, LIBRARY[node.module])
            return
        package, file = node.module.split(".")
        self.assertEqual((package, node.level), ("towerback", 0))
        used.add(file + ".py")
        tree = ast.parse(read(file + ".py"))
        defined = [part.name for part in tree.body if isinstance(part, (ast.FunctionDef, ast.ClassDef))]
        defined += [part.targets[0].id for part in tree.body if isinstance(part, ast.Assign)]
        self.assertLessEqual(names, set(defined))

    def test_all_imports_are_used(self):
        for name, _, tree in parsed():
            with self.subTest(name):
                used = {node.id for node in ast.walk(tree) if isinstance(node, ast.Name)}
                for node in tree.body:
                    if isinstance(node, ast.ImportFrom):
                        self.assertLessEqual({alias.name for alias in node.names}, used)

    def test_statements(self):
        for name, _, tree in parsed():
            with self.subTest(name):
                for node in ast.walk(tree):
                    if isinstance(node, (ast.stmt, ast.mod)):
                        self.assertIsInstance(node, STATEMENTS, getattr(node, "lineno", 0))
                    self.assertNotIsInstance(node, (ast.Lambda, ast.Set, ast.SetComp, ast.JoinedStr, ast.NamedExpr))
                    self.assertNotIsInstance(node, (ast.Div, ast.MatMult, ast.AnnAssign, ast.Starred, ast.Yield))
                    if isinstance(node, (ast.FunctionDef, ast.ClassDef)):
                        self.assertEqual(node.decorator_list, [])
                        self.assertTrue(ast.get_docstring(node) or node.name == "__init__", node.name)
                    if isinstance(node, ast.FunctionDef):
                        self.assertIsInstance(node.parent, (ast.Module, ast.ClassDef))
                        rest = node.args.vararg, node.args.kwarg, node.args.kwonlyargs, node.args.defaults
                        self.assertEqual(rest, (None, None, [], []))
                    if isinstance(node, ast.Expr) and not isinstance(node.value, ast.Call):
                        self.assertIsInstance(node.value.value, str)
                    if isinstance(node, (ast.Is, ast.IsNot)):
                        self.assertIsInstance(node.parent.comparators[0], ast.Constant)

    def test_module_level(self):
        for name, _, tree in parsed():
            with self.subTest(name):
                self.assertTrue(ast.get_docstring(tree))
                names = top_names(tree)
                self.assertEqual(len(names), len(set(names)))
                for node in tree.body:
                    if isinstance(node, ast.Assign):
                        self.assertEqual([type(target) for target in node.targets], [ast.Name])
                        ast.literal_eval(compile_power(node.value))
                    else:
                        self.assertIsInstance(node, (ast.ImportFrom, ast.FunctionDef, ast.ClassDef, ast.Expr))

    def test_names(self):
        for name, _, tree in parsed():
            with self.subTest(name):
                names = bound_names(tree)
                for word in names:
                    self.assertRegex(word, r"^(__init__|_|_?[A-Za-z][A-Za-z0-9_]*)$")
                    self.assertNotIn(word, BARRED)
                    self.assertNotIn(word, BUILTIN_NAMES)
                fixed = [node.name for node in tree.body if isinstance(node, ast.ClassDef)]
                for node in tree.body:
                    if isinstance(node, ast.ImportFrom):
                        fixed.extend(alias.name for alias in node.names)
                for node in tree.body:
                    if isinstance(node, ast.FunctionDef):
                        self.assertFalse(set(bound_names(node)) & set(fixed), node.name)

    def test_builtins_and_methods(self):
        for name, _, tree in parsed():
            with self.subTest(name):
                known = set(bound_names(tree)) | set(top_names(tree))
                for node in ast.walk(tree):
                    if isinstance(node, ast.Name) and node.id not in known:
                        self.assertIn(node.id, BUILTINS, node.lineno)
                    if isinstance(node, ast.Attribute) and isinstance(node.parent, ast.Call):
                        if node.parent.func is node and node.attr != "__init__":
                            self.assertIn(node.attr, METHODS, node.lineno)
                    if isinstance(node, ast.Call) and node.keywords:
                        self.assertLessEqual({word.arg for word in node.keywords}, {"key", "reverse", "default", "start"})
                        self.assertIn(node.func.id, ("sorted", "min", "max", "sum", "enumerate"))

    def test_iterated_at_once(self):
        for name, _, tree in parsed():
            with self.subTest(name):
                for node in ast.walk(tree):
                    if isinstance(node, ast.GeneratorExp):
                        self.assertIsInstance(node.parent, ast.Call, node.lineno)
                        self.assertIn(node.parent.func.id, TAKERS)
                        self.assertEqual(len(node.parent.args), 1)
                        self.assertFalse(any(isinstance(part.iter, ast.Call) for part in node.generators), node.lineno)
                        inner = [part for part in ast.walk(node.elt) if isinstance(part, (ast.GeneratorExp, ast.ListComp))]
                        self.assertEqual(inner, [])
                    if isinstance(node, ast.Call) and isinstance(node.func, ast.Name) and node.func.id in VIEWS:
                        self.check_view(node)

    def check_view(self, node):
        if isinstance(node.parent, (ast.For, ast.comprehension)):
            self.assertIs(node.parent.iter, node)
        else:
            self.assertIsInstance(node.parent, ast.Call, node.lineno)
            taker = node.parent.func.id
            self.assertIn(taker, TAKERS + (("reversed",) if node.func.id == "range" else ()))
            self.assertNotIn(taker, ("min", "max"))

    def test_loops_do_not_change_what_they_go_over(self):
        for name, _, tree in parsed():
            with self.subTest(name):
                for node in ast.walk(tree):
                    if isinstance(node, ast.For) and isinstance(node.iter, ast.Name):
                        for part in ast.walk(node):
                            if isinstance(part, ast.Subscript) and not isinstance(part.ctx, ast.Load):
                                self.assertNotEqual(getattr(part.value, "id", None), node.iter.id, part.lineno)
                            if isinstance(part, ast.Call) and isinstance(part.func, ast.Attribute):
                                self.assertNotEqual(getattr(part.func.value, "id", None), node.iter.id, part.lineno)

    def test_numbers_and_strings(self):
        for name, _, tree in parsed():
            with self.subTest(name):
                for node in ast.walk(tree):
                    if isinstance(node, ast.BinOp) and isinstance(node.op, ast.Pow):
                        self.assertIsInstance(node.right, ast.Constant)
                        self.assertTrue(0 <= node.right.value <= 64)
                    if isinstance(node, ast.Constant):
                        self.assertIn(type(node.value), (int, str, bool, type(None)))
                        if isinstance(node.value, str):
                            self.assertNotIn("%", node.value)
                            if not isinstance(node.parent, ast.Expr):
                                self.assertFalse(set(node.value.split()) & WORDS)
                    if isinstance(node, ast.Call) and isinstance(node.func, ast.Name):
                        self.assertNotIn(node.func.id, ("pow", "chr"))

    def test_errors(self):
        for name, _, tree in parsed():
            with self.subTest(name):
                for node in ast.walk(tree):
                    if isinstance(node, ast.Raise):
                        self.assertIsInstance(node.exc, ast.Call)
                        self.assertEqual(len(node.exc.args), 1)
                        self.assertIsNone(node.cause)
                    if isinstance(node, ast.ExceptHandler):
                        self.assertIsInstance(node.type, ast.Name)
                        self.assertNotIn(node.type.id, ERRORS)
                    if isinstance(node, ast.Try):
                        self.assertEqual(node.finalbody, [])

    def test_words_in_code(self):
        for name, _, tree in parsed():
            with self.subTest(name):
                names = {node.id for node in ast.walk(tree) if isinstance(node, ast.Name)}
                names |= {node.attr for node in ast.walk(tree) if isinstance(node, ast.Attribute)}
                names |= {node.arg for node in ast.walk(tree) if isinstance(node, (ast.arg, ast.keyword))}
                self.assertFalse(names & (WORDS | BARRED))


def compile_power(node):
    """Return a tree of literals with its sums, products and powers done, for what stands at module level."""
    value = eval(compile(ast.Expression(node), "module level", "eval"), {"__builtins__": {}})
    return repr(value)


if __name__ == "__main__":
    unittest.main()
