"""The interface at the end of the document: names, parameters, and which module imports which."""

import ast
import importlib
import inspect
import pathlib
import unittest

ROOT = pathlib.Path(__file__).resolve().parent.parent / "pairpicks"

# The modules that are here, in their order, with their functions and parameters.
# Behind errors stand checks and matching, which are the package's own.
MODULES = {
    "errors": {},
    "checks": {},
    "matching": {},
    "plans": {
        "is_plan": "thing", "is_book": "thing", "persons_of": "plan", "desks_of": "plan", "turned": "plan",
        "met": "one other",
    },
    "books": {
        "sizes": "book", "times": "book", "kept": "book numbers", "joined": "one other", "rearranged": "book order",
        "renamed": "book persons desks", "turned_book": "book", "sure": "book",
    },
    "rings": {
        "pieces": "one other", "swapped": "one other person", "are_ring": "one other", "ring_of": "persons desks",
        "row_of": "one other",
    },
    "picks": {
        "is_pick": "book thing", "plan_of": "book pick", "unused": "book pick", "openings": "book pick",
        "with_pair": "book pick number pair", "without": "book pick numbers",
    },
    "chains": {
        "chain": "book pick order", "ends": "book pick order", "path": "book pick order", "grown": "book pick order",
    },
    "growing": {"grow": "book pick", "grow_by": "book pick orders"},
    "lone": {
        "is_lone": "thing", "lone_of": "persons desks numbers", "told_lone": "book", "lone_many": "k",
        "lones": "persons desks", "spared": "book person desk", "spared_many": "book person desk",
    },
    "lonemore": {
        "with_more": "book pair", "more_many": "book pair", "with_changed": "book number plan",
        "changed_pick": "book number plan",
    },
    "close": {"is_close": "thing", "is_full": "thing", "close_pick": "book", "left_lone": "book"},
    "twofold": {
        "twofold": "one other many more", "twofold_most": "one other many more", "twofold_pick": "one other many more",
    },
    "trails": {"is_trailing": "book", "trail_line": "book", "trail_pick": "book"},
    "fewer": {
        "wide_chain": "book pick order", "wide_ends": "book pick order", "wide_path": "book pick order",
        "wide_grown": "book pick order", "wide_grow": "book pick", "wide_sure": "sizes", "plans_for": "pairs fewer",
    },
    "rising": {
        "rises": "sizes number", "short_size": "sizes number", "rises_to": "sizes", "deficit": "sizes number",
        "rising_pick": "book number",
    },
    "sides": {
        "side_pick": "book side", "is_side_pick": "book side thing", "short_lot": "book side",
        "is_short_lot": "book side thing", "side_most": "book side",
    },
    "bars": {"is_within": "book one other", "bar": "book one other", "is_bar": "book thing"},
    "least": {"failing_book": "sizes number", "failing_bar": "sizes number"},
    "greatest": {"greatest": "book", "greatest_pick": "book", "barred": "book numbers persons desks"},
    "guards": {"is_guard": "book thing", "unguarded": "book numbers persons desks", "least_guard": "book"},
    "trees": {"tree": "book goal", "is_tree": "book goal thing"},
    "unions": {
        "union_plan": "book numbers", "union_size": "book numbers", "is_cover": "book numbers thing",
        "cover": "book numbers", "lack": "book", "lacking": "book",
    },
    "must": {"always": "book", "never": "book", "spare": "book"},
    "many": {"picks": "book size", "picks_many": "book size", "tally": "book"},
    "steps": {
        "near_picks": "book pick", "way_to": "book one other", "lot_of": "book pick", "is_closed": "book thing",
    },
    "moves": {
        "places": "dials", "moved": "dials place move", "turns_of": "dials move", "is_one_ring": "dials",
        "total_of": "dials moves", "move_plan": "dials move", "move_book": "dials moves",
    },
    "closings": {
        "is_closing": "dials moves thing", "closing": "dials moves", "closings_many": "dials moves",
        "closing_by": "dials moves pick", "pick_by": "dials moves closing",
    },
    "barring": {
        "is_free": "dials thing", "free_most": "dials", "free_moves": "dials", "always_closing": "dials",
        "never_closing": "dials", "is_barring": "dials thing", "barring": "dials one other",
    },
    "tables": {
        "is_table": "thing", "table_book": "table", "book_table": "book", "moves_table": "dials moves",
        "is_cut": "table thing", "cut": "table", "cut_by": "table pick",
    },
    "partings": {
        "is_parting": "table thing", "parting": "table", "mate": "table parting", "parting_by": "dials cut",
    },
    "office": {"Office": ""},
    "texts": {"book_text": "book", "read_book": "text", "office_text": "office", "read_office": "text"},
    "webs": {
        "is_web": "thing", "web_of": "book", "load": "web", "are_hues": "web thing", "hues": "web",
        "parted": "web hues",
        "is_settled": "web hues lot thing", "settled": "web hues lot", "all_settled": "web hues lot",
    },
    "hours": {
        "are_menus": "web thing", "is_choice": "web menus thing", "assigned": "web hues menus",
        "rivals": "web hues pair", "choice": "web menus", "choice_tree": "web menus",
        "is_choice_tree": "web menus thing",
    },
}
# The methods of Office, with their parameters.
METHODS = {
    "come": "label plan", "leave": "label", "change": "label plan", "put": "label pair", "take_off": "labels",
    "grow": "order", "grow_wide": "order", "settle": "", "rename": "persons desks", "undo": "", "redo": "", "log": "",
    "copy": "", "labels": "", "unused_labels": "", "plan": "label", "held": "", "book": "", "pick": "", "seated": "",
    "openings": "", "would": "order", "stays": "person", "taken": "",
}


class Interface(unittest.TestCase):
    def test_names_and_parameters(self):
        for name, functions in MODULES.items():
            module = importlib.import_module("pairpicks." + name)
            for function, parameters in functions.items():
                found = getattr(module, function)
                self.assertEqual(" ".join(inspect.signature(found).parameters), parameters, function)
                self.assertEqual(found.__module__, "pairpicks." + name, function)
                for parameter in inspect.signature(found).parameters.values():
                    self.assertEqual(parameter.kind, parameter.POSITIONAL_OR_KEYWORD)
                    self.assertIs(parameter.default, parameter.empty)

    def test_methods(self):
        office = importlib.import_module("pairpicks.office").Office
        for name, parameters in METHODS.items():
            self.assertIn(name, vars(office))
            found = inspect.signature(vars(office)[name]).parameters
            self.assertEqual(" ".join(found), ("self " + parameters).strip(), name)
        self.assertLessEqual({"__init__", "__eq__", "__len__"}, set(vars(office)))

    def test_init_defines_nothing(self):
        self.assertEqual(ast.parse((ROOT / "__init__.py").read_text()).body, [])

    def test_files(self):
        found = {path.name for path in ROOT.iterdir() if path.name != "__pycache__"}
        self.assertEqual(found, {name + ".py" for name in MODULES} | {"__init__.py"})

    def test_each_imports_only_from_those_before_it(self):
        names = list(MODULES)
        for name in names:
            for node in ast.walk(ast.parse((ROOT / (name + ".py")).read_text())):
                self.assertNotIsInstance(node, ast.Import)
                if isinstance(node, ast.ImportFrom) and node.module not in ("itertools", "math"):
                    package, _, module = node.module.partition(".")
                    self.assertEqual((package, node.level), ("pairpicks", 0))
                    self.assertLess(names.index(module), names.index(name), f"{name} imports {module}")


if __name__ == "__main__":
    unittest.main()
