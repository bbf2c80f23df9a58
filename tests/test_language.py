"""The rules of the language that can be read off the files, in a narrower form: what the package uses of them."""

import ast
import builtins
import pathlib
import re
import unittest

ROOT = pathlib.Path(__file__).resolve().parent.parent / "pairpicks"
FILES = sorted(ROOT.glob("*.py"))

NODES = """Module ImportFrom alias ClassDef FunctionDef arguments arg Expr Constant Name Load Store Assign AugAssign
Attribute Subscript Slice Call keyword Tuple List Dict ListComp DictComp SetComp comprehension If IfExp For While Break
Continue Pass Return Raise Try ExceptHandler JoinedStr FormattedValue Compare Eq NotEq Lt LtE Gt GtE In NotIn Is IsNot
BoolOp And Or UnaryOp Not USub BinOp Add Sub
Mult FloorDiv Mod BitAnd BitOr LShift RShift""".split()
BUILTINS = """len range enumerate zip min max sum abs sorted reversed int str bool list tuple dict set isinstance any
all divmod ValueError""".split()
METHODS = """append clear copy count extend find get index insert items join keys pop remove setdefault split update
values __init__""".split()
# What is caught is an own error.
CAUGHT = ["PickError"]
LIBRARY = {"itertools": ["combinations", "permutations", "product"], "math": ["comb", "factorial", "perm", "gcd"]}
# What gives no list stands only where it is iterated at once.
LAZY = ["range", "zip", "enumerate", "reversed", "combinations", "permutations", "product"]
LAZY_METHODS = ["items", "keys", "values"]
TAKERS = ["list", "tuple", "dict", "sorted", "sum", "any", "all", "enumerate", "zip", "min", "max",
          "combinations", "permutations", "product"]
WORDS = """type typing typing_extensions enum Enum IntEnum StrEnum Flag IntFlag Generic Protocol ABC ABCMeta namedtuple
NamedTuple TypedDict TYPE_CHECKING abstractmethod register mro elements open input law version_info with_traceback
add_note""".split()


def trees():
    """Each file's name and tree, every node knowing the one above it."""
    for path in FILES:
        tree = ast.parse(path.read_text())
        for node in ast.walk(tree):
            for child in ast.iter_child_nodes(node):
                child.above = node
        yield path.name, tree


def iterated_at_once(node):
    """Whether what this call gives is iterated on the spot."""
    above = node.above
    if isinstance(above, (ast.For, ast.comprehension)):
        return above.iter is node
    return isinstance(above, ast.Call) and isinstance(above.func, ast.Name) and above.func.id in TAKERS


class Files(unittest.TestCase):
    def test_names_sizes_and_characters(self):
        self.assertLessEqual(len(FILES), 100)
        for path in FILES:
            text = path.read_bytes()
            self.assertTrue(re.fullmatch(r"(__init__|[a-z][a-z0-9_]*)\.py", path.name))
            self.assertTrue(all(byte == 10 or 32 <= byte <= 126 for byte in text), path.name)
            lines = text.decode().split("\n")
            self.assertLessEqual(len(lines), 400)
            self.assertLessEqual(max(len(line) for line in lines), 120)
            self.assertFalse(any(line != line.rstrip() for line in lines))

    def test_words(self):
        for name, tree in trees():
            found = {node.id for node in ast.walk(tree) if isinstance(node, ast.Name)}
            found |= {node.arg for node in ast.walk(tree) if isinstance(node, (ast.arg, ast.keyword))}
            found |= {node.attr for node in ast.walk(tree) if isinstance(node, ast.Attribute)}
            found |= {node.name for node in ast.walk(tree) if isinstance(node, (ast.FunctionDef, ast.ClassDef))}
            self.assertEqual(found & set(WORDS), set(), name)
            for node in ast.walk(tree):
                if isinstance(node, ast.Constant) and isinstance(node.value, str):
                    self.assertNotRegex(node.value, "[%\\\\]", name)
                    self.assertNotRegex(node.value, "_wall|_WallAttr|dataclass|overload|contextmanager", name)


class Code(unittest.TestCase):
    def test_only_what_is_listed_here(self):
        for name, tree in trees():
            for node in ast.walk(tree):
                self.assertIn(node.__class__.__name__, NODES, f"{name}:{getattr(node, 'lineno', 0)}")
                if isinstance(node, ast.Constant):
                    self.assertIn(node.value.__class__, (int, str, bool, None.__class__))

    def test_module_level(self):
        for name, tree in trees():
            bound = []
            for at, node in enumerate(tree.body):
                if at == 0:
                    self.assertIsInstance(ast.get_docstring(tree), str, name)
                elif isinstance(node, ast.ImportFrom):
                    self.assertTrue(all(isinstance(each, (ast.Expr, ast.ImportFrom)) for each in tree.body[:at]), name)
                    bound += [each.name for each in node.names]
                elif isinstance(node, ast.Assign):
                    if isinstance(node.value, ast.Dict):
                        # A table of functions that stand above it.
                        self.assertLessEqual({each.id for each in node.value.values}, set(bound), name)
                        self.assertIs(all([isinstance(key, ast.Constant) for key in node.value.keys]), True)
                    else:
                        self.assertIsInstance(ast.literal_eval(node.value), (int, str, tuple))
                    bound.append(node.targets[0].id)
                else:
                    self.assertIsInstance(node, (ast.FunctionDef, ast.ClassDef), name)
                    bound.append(node.name)
            self.assertEqual(len(set(bound)), len(bound), name)

    def test_functions(self):
        for name, tree in trees():
            imported = {each.name for node in tree.body if isinstance(node, ast.ImportFrom) for each in node.names}
            classes = {node.name for node in tree.body if isinstance(node, ast.ClassDef)}
            for node in ast.walk(tree):
                if not isinstance(node, ast.FunctionDef):
                    continue
                self.assertLessEqual(node.end_lineno - node.lineno + 1, 40, node.name)
                self.assertEqual(node.decorator_list + node.args.defaults + node.args.kwonlyargs, [])
                self.assertIsInstance(node.above, (ast.Module, ast.ClassDef))
                if node.name != "__init__":
                    self.assertIsInstance(ast.get_docstring(node), str, node.name)
                local = {each.id for each in ast.walk(node) if isinstance(each, ast.Name)
                         and isinstance(each.ctx, ast.Store)} | {each.arg for each in node.args.args}
                self.assertEqual(local & (imported | classes | set(dir(builtins))), set(), f"{name}: {node.name}")
                self.assertFalse(any(each.startswith("__") for each in local))

    def test_builtins_and_methods(self):
        own = [each.name for _, tree in trees() for node in ast.walk(tree) if isinstance(node, ast.ClassDef)
               for each in node.body if isinstance(each, ast.FunctionDef)]
        for name, tree in trees():
            bound = {node.id for node in ast.walk(tree) if isinstance(node, ast.Name)
                     and isinstance(node.ctx, ast.Store)}
            bound |= {node.arg for node in ast.walk(tree) if isinstance(node, ast.arg)}
            bound |= {node.name for node in ast.walk(tree)
                      if isinstance(node, (ast.FunctionDef, ast.ClassDef, ast.alias))}
            for node in ast.walk(tree):
                if isinstance(node, ast.Name) and node.id not in bound:
                    self.assertIn(node.id, BUILTINS, f"{name}:{node.lineno}")
                if isinstance(node, ast.Name) and isinstance(node.ctx, ast.Load):
                    self.assertNotEqual(node.id, "_", f"{name}:{node.lineno}")
                if isinstance(node, ast.Call) and isinstance(node.func, ast.Attribute):
                    self.assertIn(node.func.attr, METHODS + own, f"{name}:{node.lineno}")
                if isinstance(node, ast.ImportFrom) and node.module in LIBRARY:
                    self.assertLessEqual({each.name for each in node.names}, set(LIBRARY[node.module]))
                if isinstance(node, ast.alias):
                    self.assertIsNone(node.asname)

    def test_what_is_iterated_at_once(self):
        for name, tree in trees():
            for node in ast.walk(tree):
                if not isinstance(node, ast.Call):
                    continue
                plain = isinstance(node.func, ast.Name) and node.func.id in LAZY
                method = isinstance(node.func, ast.Attribute) and node.func.attr in LAZY_METHODS
                if plain or method:
                    self.assertTrue(iterated_at_once(node), f"{name}:{node.lineno}")

    def test_sets_are_only_measured(self):
        for name, tree in trees():
            for node in ast.walk(tree):
                made = isinstance(node, ast.Call) and isinstance(node.func, ast.Name) and node.func.id == "set"
                if made or isinstance(node, (ast.SetComp, ast.Set)):
                    self.assertIsInstance(node.above, ast.Call, f"{name}:{node.lineno}")
                    self.assertIn(node.above.func.id, ("len", "sorted"), f"{name}:{node.lineno}")

    def test_methods_and_attributes(self):
        for name, tree in trees():
            stored = {node.attr for node in ast.walk(tree) if isinstance(node, ast.Attribute)
                      and isinstance(node.ctx, ast.Store)}
            called = {id(node.func) for node in ast.walk(tree) if isinstance(node, ast.Call)}
            read = {node.attr for node in ast.walk(tree) if isinstance(node, ast.Attribute) and id(node) not in called}
            methods = {each.name for node in ast.walk(tree) if isinstance(node, ast.ClassDef) for each in node.body
                       if isinstance(each, ast.FunctionDef)}
            self.assertEqual(stored & methods, set(), name)
            self.assertLessEqual(read, stored, name)

    def test_double_underscore_methods(self):
        for name, tree in trees():
            for node in ast.walk(tree):
                if isinstance(node, ast.FunctionDef) and node.name.startswith("__"):
                    self.assertIsInstance(node.above, ast.ClassDef)
                    self.assertIn(node.name, ("__init__", "__len__", "__eq__"))
                    if node.name != "__init__":
                        self.assertIsInstance(node.body[-1], ast.Return)
                    if node.name == "__len__":
                        self.assertEqual(node.body[-1].value.func.id, "len")

    def test_what_is_caught(self):
        for name, tree in trees():
            for node in ast.walk(tree):
                if isinstance(node, ast.ExceptHandler):
                    self.assertIn(node.type.id, CAUGHT, f"{name}:{node.lineno}")
                    self.assertIsNone(node.name)

    def test_is_and_raise(self):
        for name, tree in trees():
            for node in ast.walk(tree):
                if isinstance(node, ast.Compare) and isinstance(node.ops[0], (ast.Is, ast.IsNot)):
                    self.assertIsInstance(node.comparators[0], ast.Constant, f"{name}:{node.lineno}")
                if isinstance(node, ast.Raise):
                    self.assertIsInstance(node.exc, ast.Call, f"{name}:{node.lineno}")
                    self.assertEqual(node.exc.keywords, [], f"{name}:{node.lineno}")


if __name__ == "__main__":
    unittest.main()
