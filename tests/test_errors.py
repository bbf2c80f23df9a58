"""Point 3 and the interface's row of errors.py."""

import inspect
import unittest

from pairpicks import errors
from pairpicks.errors import PickError
from tests.helper import nested

PLAIN = """BadBook BadClose BadClosing BadCut BadDesk BadDesks BadDials BadFull BadGoal BadHues BadLabel BadLabels
BadLone BadLot BadMenus BadMove BadMoves BadNumber BadNumbers BadOffice BadOrder BadOrders BadPair BadParting BadPerson
BadPersons BadPick BadPlace BadPlan BadRow BadSize BadSizes BadTable BadWeb NoEnd NoRing NoRise NoTable NotAcross
NotTrailing NothingDone NothingUndone Rises""".split()
TOLD = {
    "BadText": "line", "Clash": "number", "IsHere": "label", "IsUnused": "label", "IsUsed": "label",
    "NotHere": "label", "NotWithin": "number", "TooMany": "most",
}
ANY = [0, 5, -3, None, True, "", "text", [], [1, [2]], (), (1, (2,)), {}, {1: {2: 3}}, PickError("text"),
       nested("list"), nested("tuple"), nested("dict")]


class Errors(unittest.TestCase):
    def test_the_list(self):
        found = {name for name, thing in vars(errors).items() if inspect.isclass(thing)}
        self.assertEqual(found, {"PickError", *PLAIN, *TOLD})

    def test_each_is_directly_below_pick_error(self):
        self.assertEqual(PickError.__bases__, (ValueError,))
        for name in PLAIN + list(TOLD):
            thing = getattr(errors, name)
            self.assertEqual(thing.__bases__, (PickError,), name)
            self.assertEqual(thing.__name__, name)
            self.assertEqual(thing.__module__, "pairpicks.errors")

    def test_made_of_a_text(self):
        for name in ["PickError"] + PLAIN:
            for text in ("", "a text", "0 of 8"):
                error = getattr(errors, name)(text)
                self.assertEqual(str(error), text)
                self.only(error, name)

    def test_made_with_an_attribute(self):
        for name, attribute in TOLD.items():
            for value in ANY:
                for error in (getattr(errors, name)(value), getattr(errors, name)(**{attribute: value})):
                    self.assertIs(getattr(error, attribute), value)
                    self.only(error, name)
                    self.assertIsInstance(str(error), str)

    def only(self, error, name):
        self.assertIsInstance(error, ValueError)
        kinds = [other for other in PLAIN + list(TOLD) + ["PickError"] if isinstance(error, getattr(errors, other))]
        self.assertEqual(set(kinds), {name, "PickError"})

    def test_equal_to_no_other_value(self):
        for name in PLAIN:
            self.assertNotEqual(getattr(errors, name)("text"), "text")
        for name in TOLD:
            self.assertNotEqual(getattr(errors, name)(3), 3)


if __name__ == "__main__":
    unittest.main()
