"""The plainest rules of the language in which the package is written, and the interface's names."""

import ast
import builtins
import io
import os
import re
import tokenize
import unittest

FOLDER = os.path.join(os.path.dirname(os.path.dirname(os.path.abspath(__file__))), "roundheap")
FILES = sorted(os.listdir(FOLDER)) if os.path.isdir(FOLDER) else []
FILES = [name for name in FILES if name != "__pycache__"]

# A doctest that runs leaves its last value among them as "_".
BUILTINS = [name for name in dir(builtins) if name != "_"]
USED = """len range enumerate zip min max sum abs sorted reversed int str bool bytes list tuple dict set frozenset isinstance
ord repr any all divmod Exception ValueError TypeError KeyError IndexError LookupError ZeroDivisionError ArithmeticError
OverflowError RuntimeError NotImplementedError AttributeError StopIteration NotImplemented iter next map property
staticmethod classmethod super""".split()
METHODS = """append clear copy count endswith extend find get index insert isalnum isalpha isdigit islower isspace isupper
items join keys ljust lower lstrip partition pop remove replace reverse rfind rjust rpartition rsplit rstrip setdefault
split splitlines startswith strip update upper values zfill bit_length add discard""".split()
CHANGING = "append clear extend insert pop remove reverse setdefault update add discard sort".split()
LIBRARY = {"heapq": ["heappush", "heappop", "heapify", "heapreplace", "heappushpop"],
           "math": ["gcd", "lcm", "isqrt", "comb", "perm", "factorial"],
           "itertools": ["product", "combinations", "permutations"]}
BARRED_EVERYWHERE = "register mro elements open input law version_info with_traceback add_note".split()
BARRED_NAMES = """attrgetter breakpoint builtins compile copyright credits delattr dir eval exec exit gc getattr globals
hasattr help id importlib license locals methodcaller os quit setattr super type vars sys""".split()
BARRED_WORDS = """typing typing_extensions enum Enum IntEnum StrEnum Flag IntFlag Generic Protocol ABC ABCMeta namedtuple
NamedTuple TypedDict TYPE_CHECKING abstractmethod type""".split()
SPECIAL = """__init__ __eq__ __repr__ __str__ __len__ __enter__ __exit__ __call__ __iter__ __lt__ __le__ __gt__ __ge__
__ne__ __add__ __sub__ __mul__ __floordiv__ __mod__ __pow__ __and__ __or__ __xor__ __lshift__ __rshift__ __neg__ __pos__
__invert__ __abs__ __bool__ __contains__ __getitem__ __setitem__""".split()
ATTRIBUTES_THAT_ARE_BARRED = """items keys values pop update append clear extend insert remove reverse setdefault sort args
encode decode hex fromhex format as_integer_ratio bit_count conjugate from_bytes is_integer to_bytes""".split()
NODES = (ast.Global, ast.AsyncFunctionDef, ast.AsyncFor, ast.AsyncWith, ast.Await, ast.Import, ast.GeneratorExp, ast.Div)


def text_of(name):
    with open(os.path.join(FOLDER, name), encoding="utf-8", newline="") as file:
        return file.read()


def trees():
    return {name: ast.parse(text_of(name)) for name in FILES}


def functions_in(tree):
    return [node for node in ast.walk(tree) if isinstance(node, ast.FunctionDef)]


def bound_names(tree):
    """All names that variables, parameters, functions, classes and imports have."""
    names = []
    for node in ast.walk(tree):
        if isinstance(node, (ast.FunctionDef, ast.ClassDef)):
            names.append(node.name)
        elif isinstance(node, ast.arg):
            names.append(node.arg)
        elif isinstance(node, ast.Name) and isinstance(node.ctx, ast.Store):
            names.append(node.id)
        elif isinstance(node, ast.alias):
            names.append(node.asname or node.name)
    return names


def is_plain(node):
    if isinstance(node, (ast.List, ast.Tuple)):
        return all(is_plain(item) for item in node.elts)
    if isinstance(node, ast.Dict):
        return all(is_plain(item) for item in node.keys + node.values)
    if isinstance(node, ast.BinOp):
        return is_plain(node.left) and is_plain(node.right)
    return isinstance(node, (ast.Constant, ast.Name)) or isinstance(node, ast.UnaryOp) and is_plain(node.operand)


class Files(unittest.TestCase):
    def test_names_of_files(self):
        self.assertIn("__init__.py", FILES)
        for name in FILES:
            self.assertRegex(name, r"\A[a-z_][a-z0-9_]*\.py\Z")
            self.assertFalse(name.startswith(("test", "law_")) or name[:-3] in BUILTINS, name)

    def test_lines_and_signs(self):
        for name in FILES:
            text = text_of(name)
            self.assertTrue(all(sign == "\n" or " " <= sign <= "~" for sign in text), name)
            rows = text.split("\n")
            self.assertLessEqual(len(rows), 399, name)
            self.assertTrue(text.endswith("\n") and not text.endswith("\n\n"), name)
            for row in rows:
                self.assertLessEqual(len(row), 120, (name, row))
                self.assertEqual(row, row.rstrip(), name)

    def test_functions_are_short(self):
        for name, tree in trees().items():
            for node in functions_in(tree):
                self.assertLessEqual(node.end_lineno - node.lineno + 1, 40, (name, node.name))

    def test_words_that_are_barred(self):
        for name in FILES:
            for token in tokenize.generate_tokens(io.StringIO(text_of(name)).readline):
                if token.type in (tokenize.NAME, tokenize.STRING) and not token.string.startswith('"""'):
                    for word in re.findall(r"\w+", token.string):
                        self.assertNotIn(word, BARRED_WORDS, name)
                if token.type == tokenize.STRING:
                    self.assertNotIn("%", token.string, name)
            self.assertNotRegex(text_of(name), r"_wall|\(type\)|Meta|metaclass=|dataclass|overload|contextmanager")


class Modules(unittest.TestCase):
    def test_imports(self):
        defined = {}
        for name, tree in trees().items():
            defined[name[:-3]] = [node.name for node in tree.body if isinstance(node, (ast.FunctionDef, ast.ClassDef))]
            defined[name[:-3]] += [node.targets[0].id for node in tree.body if isinstance(node, ast.Assign)]
        for name, tree in trees().items():
            for node in ast.walk(tree):
                if not isinstance(node, ast.ImportFrom):
                    continue
                self.assertIn(node, tree.body, name)
                self.assertEqual(node.level, 0, name)
                words = node.module.split(".")
                for alias in node.names:
                    self.assertIsNone(alias.asname, name)
                    if words[0] == "roundheap":
                        self.assertIn(alias.name, defined[words[1]], (name, node.module))
                    else:
                        self.assertIn(alias.name, LIBRARY[node.module], name)

    def test_each_import_is_used(self):
        for name, tree in trees().items():
            used = {node.id for node in ast.walk(tree) if isinstance(node, ast.Name)}
            for node in tree.body:
                if isinstance(node, ast.ImportFrom):
                    self.assertEqual([alias.name for alias in node.names if alias.name not in used], [], name)

    def test_no_circles_of_imports(self):
        ways = {name[:-3]: {node.module.split(".")[-1] for node in tree.body if isinstance(node, ast.ImportFrom)}
                for name, tree in trees().items()}
        while ways:
            ends = [name for name in ways if not ways[name] & set(ways)]
            self.assertTrue(ends, ways)
            for name in ends:
                del ways[name]

    def test_module_level(self):
        for name, tree in trees().items():
            seen = []
            for index, node in enumerate(tree.body):
                if isinstance(node, ast.Expr):
                    self.assertTrue(index == 0 and isinstance(node.value.value, str), name)
                elif isinstance(node, ast.Assign):
                    self.assertEqual([isinstance(target, ast.Name) for target in node.targets], [True], name)
                    self.assertTrue(is_plain(node.value), name)
                    seen.append(node.targets[0].id)
                elif isinstance(node, ast.ImportFrom):
                    seen.extend(alias.name for alias in node.names)
                else:
                    self.assertIsInstance(node, (ast.FunctionDef, ast.ClassDef), name)
                    seen.append(node.name)
            self.assertEqual(len(seen), len(set(seen)), name)

    def test_tables_are_only_read(self):
        tables = set()
        for tree in trees().values():
            tables.update(node.targets[0].id for node in tree.body if isinstance(node, ast.Assign) and isinstance(node.value, (ast.List, ast.Dict)))
        self.assertIn("ACTIONS", tables)
        for name, tree in trees().items():
            above = {child: node for node in ast.walk(tree) for child in ast.iter_child_nodes(node)}
            for node in ast.walk(tree):
                if isinstance(node, ast.Name) and node.id in tables and isinstance(node.ctx, ast.Load):
                    user = above[node]
                    copied = isinstance(user, ast.Call) and isinstance(user.func, ast.Name) and user.func.id in ("len", "list", "dict", "sorted")
                    self.assertTrue(copied or isinstance(user, (ast.Subscript, ast.Compare, ast.For, ast.comprehension)), (name, node.lineno))

    def test_no_other_binding_of_classes_and_imports(self):
        for name, tree in trees().items():
            outer = [node.name for node in tree.body if isinstance(node, ast.ClassDef)]
            for node in tree.body:
                if isinstance(node, ast.ImportFrom):
                    outer.extend(alias.name for alias in node.names)
            names = bound_names(tree)
            for word in outer:
                self.assertEqual(names.count(word), 1, (name, word))


class Code(unittest.TestCase):
    def test_statements_and_expressions(self):
        for name, tree in trees().items():
            for node in ast.walk(tree):
                self.assertNotIsInstance(node, NODES, name)
                if isinstance(node, ast.Constant):
                    self.assertNotIsInstance(node.value, (float, complex), name)
                if isinstance(node, ast.Compare):
                    for sign, value in zip(node.ops, node.comparators):
                        if isinstance(sign, (ast.Is, ast.IsNot)):
                            self.assertTrue(isinstance(value, ast.Constant) and value.value in (None, True, False), name)
                if isinstance(node, (ast.FunctionDef, ast.ClassDef)):
                    self.assertEqual(node.decorator_list, [], name)
                if isinstance(node, (ast.Set, ast.SetComp)):
                    self.fail((name, node.lineno))
                if isinstance(node, ast.BinOp) and isinstance(node.op, ast.Pow):
                    self.assertIsInstance(node.right, ast.Constant, name)

    def test_names(self):
        for name, tree in trees().items():
            for word in bound_names(tree):
                self.assertFalse(word.startswith("__") and word not in SPECIAL, (name, word))
                self.assertNotIn(word, BARRED_EVERYWHERE + BARRED_NAMES + BUILTINS, name)
                self.assertRegex(word, r"\A(_|_?[A-Za-z][A-Za-z0-9_]*|__[a-z]+__)\Z")

    def test_builtins(self):
        for name, tree in trees().items():
            for node in ast.walk(tree):
                if isinstance(node, ast.Name) and isinstance(node.ctx, ast.Load) and node.id in BUILTINS:
                    self.assertIn(node.id, USED, name)

    def test_methods(self):
        own = set()
        for tree in trees().values():
            own.update(node.name for node in functions_in(tree))
        for name, tree in trees().items():
            for node in ast.walk(tree):
                if isinstance(node, ast.Call) and isinstance(node.func, ast.Attribute):
                    self.assertTrue(node.func.attr in METHODS or node.func.attr in own, (name, node.func.attr))
                if isinstance(node, ast.Attribute):
                    self.assertNotIn(node.attr, BARRED_EVERYWHERE + ["format", "format_map", "args"], name)

    def test_no_name_is_a_method_and_an_attribute(self):
        methods, attributes = set(), set()
        for tree in trees().values():
            for node in ast.walk(tree):
                if isinstance(node, ast.ClassDef):
                    methods.update(part.name for part in node.body if isinstance(part, ast.FunctionDef))
                if isinstance(node, ast.Attribute) and isinstance(node.ctx, ast.Store):
                    attributes.add(node.attr)
        self.assertEqual(methods & attributes, set())


class Attributes(unittest.TestCase):
    def test_attributes_are_assigned_through_local_names(self):
        for name, tree in trees().items():
            for node in ast.walk(tree):
                if isinstance(node, ast.Attribute) and not isinstance(node.ctx, ast.Load):
                    self.assertIsInstance(node.value, ast.Name, (name, node.lineno))
                    self.assertNotIn(node.attr, ATTRIBUTES_THAT_ARE_BARRED, (name, node.lineno))

    def test_attributes_that_are_read_are_assigned(self):
        known = set(METHODS) | {"items", "keys", "values"}
        for tree in trees().values():
            known.update(node.name for node in functions_in(tree))
            known.update(node.attr for node in ast.walk(tree) if isinstance(node, ast.Attribute) and isinstance(node.ctx, ast.Store))
        for name, tree in trees().items():
            for node in ast.walk(tree):
                if isinstance(node, ast.Attribute):
                    self.assertIn(node.attr, known, (name, node.lineno))


class Loops(unittest.TestCase):
    def changed_in(self, nodes):
        """The texts of what is changed in some nodes: by methods, items, del and +=."""
        changed = set()
        for part in nodes:
            for node in ast.walk(part):
                if isinstance(node, ast.Call) and isinstance(node.func, ast.Attribute) and node.func.attr in CHANGING:
                    changed.add(ast.unparse(node.func.value))
                if isinstance(node, ast.Subscript) and not isinstance(node.ctx, ast.Load):
                    changed.add(ast.unparse(node.value))
                if isinstance(node, ast.AugAssign):
                    changed.add(ast.unparse(node.target))
        return changed

    def test_what_is_iterated_over_is_not_changed(self):
        for name, tree in trees().items():
            for node in ast.walk(tree):
                if isinstance(node, ast.For):
                    copied = isinstance(node.iter, ast.Call) and isinstance(node.iter.func, ast.Name) and node.iter.func.id in ("list", "sorted", "range")
                    names = set() if copied else {ast.unparse(part) for part in ast.walk(node.iter) if isinstance(part, (ast.Name, ast.Attribute))}
                    self.assertEqual(names & self.changed_in(node.body), set(), (name, node.lineno))

    def test_reversed_takes_copies(self):
        for name, tree in trees().items():
            for node in ast.walk(tree):
                if isinstance(node, ast.Call) and isinstance(node.func, ast.Name) and node.func.id == "reversed":
                    part = node.args[0]
                    self.assertTrue(isinstance(part, ast.Call) and part.func.id in ("list", "tuple", "sorted", "range"), (name, node.lineno))


class Operators(unittest.TestCase):
    """Operators, equality and repr change nothing, neither does what they call."""

    def setUp(self):
        self.functions = {}
        self.first = []
        for tree in trees().values():
            for node in functions_in(tree):
                self.functions.setdefault(node.name, []).append(node)
                if node.name in SPECIAL and node.name != "__init__":
                    self.first.append(node)

    def called(self):
        """The operators and all functions that they call."""
        found, ways = [], list(self.first)
        while ways:
            node = ways.pop()
            if node in found:
                continue
            found.append(node)
            for part in ast.walk(node):
                if isinstance(part, ast.Call):
                    word = part.func.id if isinstance(part.func, ast.Name) else part.func.attr
                    ways.extend(self.functions.get(word, []))
        return found

    def made_here(self, function):
        """The local names that are assigned nothing but new lists and dicts."""
        made, other = set(), {argument.arg for argument in function.args.args}
        for node in ast.walk(function):
            if isinstance(node, ast.Assign):
                for target in node.targets:
                    fresh = (isinstance(node.value, (ast.List, ast.ListComp, ast.Dict))
                             or isinstance(node.value, ast.Call) and isinstance(node.value.func, ast.Name)
                             and node.value.func.id in ("list", "dict", "sorted"))
                    if isinstance(target, ast.Name):
                        (made if fresh else other).add(target.id)
        return made - other

    def test_they_change_nothing(self):
        found = self.called()
        self.assertTrue({"agreed", "listed", "joined"} <= {node.name for node in found})
        for function in found:
            made = self.made_here(function)
            for node in ast.walk(function):
                if isinstance(node, (ast.Attribute, ast.Subscript)) and not isinstance(node.ctx, ast.Load):
                    self.assertIsInstance(node, ast.Subscript, function.name)
                    self.assertIn(node.value.id, made, function.name)
                if isinstance(node, ast.AugAssign):
                    self.assertTrue(isinstance(node.value, ast.Constant) and isinstance(node.target, ast.Name),
                                    function.name)
                if isinstance(node, ast.Call) and isinstance(node.func, ast.Attribute) and node.func.attr in CHANGING:
                    self.assertIn(node.func.value.id, made, function.name)


if __name__ == "__main__":
    unittest.main()
