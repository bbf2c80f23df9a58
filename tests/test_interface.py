"""The interface at the end of the document: names, parameters, and which module imports which."""

import ast
import importlib
import inspect
import pathlib
import unittest

ROOT = pathlib.Path(__file__).resolve().parent.parent / "pairpicks"

# The modules that are here, in their order, with their functions and parameters.
# Behind errors stands checks, which is the package's own.
MODULES = {
    "errors": {},
    "checks": {},
    "plans": {
        "is_plan": "thing", "is_book": "thing", "persons_of": "plan", "desks_of": "plan", "turned": "plan",
        "met": "one other",
    },
    "books": {
        "sizes": "book", "times": "book", "kept": "book numbers", "joined": "one other", "rearranged": "book order",
        "renamed": "book persons desks", "turned_book": "book", "sure": "book",
    },
    "rings": {
        "pieces": "one other", "swapped": "one other person", "are_ring": "one other", "ring_of": "persons desks",
        "row_of": "one other",
    },
    "picks": {
        "is_pick": "book thing", "plan_of": "book pick", "unused": "book pick", "openings": "book pick",
        "with_pair": "book pick number pair", "without": "book pick numbers",
    },
    "chains": {
        "chain": "book pick order", "ends": "book pick order", "path": "book pick order", "grown": "book pick order",
    },
    "growing": {"grow": "book pick", "grow_by": "book pick orders"},
    "lone": {
        "is_lone": "thing", "lone_of": "persons desks numbers", "told_lone": "book", "lone_many": "k",
        "lones": "persons desks", "spared": "book person desk", "spared_many": "book person desk",
    },
    "lonemore": {
        "with_more": "book pair", "more_many": "book pair", "with_changed": "book number plan",
        "changed_pick": "book number plan",
    },
    "close": {"is_close": "thing", "is_full": "thing", "close_pick": "book", "left_lone": "book"},
    "twofold": {
        "twofold": "one other many more", "twofold_most": "one other many more", "twofold_pick": "one other many more",
    },
}


class Interface(unittest.TestCase):
    def test_names_and_parameters(self):
        for name, functions in MODULES.items():
            module = importlib.import_module("pairpicks." + name)
            for function, parameters in functions.items():
                found = getattr(module, function)
                self.assertEqual(" ".join(inspect.signature(found).parameters), parameters, function)
                self.assertEqual(found.__module__, "pairpicks." + name, function)
                for parameter in inspect.signature(found).parameters.values():
                    self.assertEqual(parameter.kind, parameter.POSITIONAL_OR_KEYWORD)
                    self.assertIs(parameter.default, parameter.empty)

    def test_init_defines_nothing(self):
        self.assertEqual(ast.parse((ROOT / "__init__.py").read_text()).body, [])

    def test_files(self):
        found = {path.name for path in ROOT.iterdir() if path.name != "__pycache__"}
        self.assertEqual(found, {name + ".py" for name in MODULES} | {"__init__.py"})

    def test_each_imports_only_from_those_before_it(self):
        names = list(MODULES)
        for name in names:
            for node in ast.walk(ast.parse((ROOT / (name + ".py")).read_text())):
                self.assertNotIsInstance(node, ast.Import)
                if isinstance(node, ast.ImportFrom) and node.module not in ("itertools", "math"):
                    package, _, module = node.module.partition(".")
                    self.assertEqual((package, node.level), ("pairpicks", 0))
                    self.assertLess(names.index(module), names.index(name), f"{name} imports {module}")


if __name__ == "__main__":
    unittest.main()
