"""Point 64."""

import itertools
import unittest

from pairpicks.errors import BadCut, BadDials, BadParting, BadTable, TooMany
from pairpicks.moves import places
from pairpicks.partings import is_parting, mate, parting, parting_by
from pairpicks.tables import is_cut, is_table, moves_table
from tests.helper import ALL_DIALS, NOT_DIALS, NOT_TABLES, ODD, Dice, both, check_calls, nested, variants
from tests.test_moves import added, back
from tests.test_tables import cuts_by_words

HAND = ((0, 1, 2), (1, 2, 0), (2, 0, 1))
CUT = {0: 0, 1: 1, 2: 2}
HAND_PARTING = [CUT, {0: 1, 1: 2, 2: 0}, {0: 2, 1: 0, 2: 1}]
NOT_SQUARE = NOT_TABLES + [((0, 1),), ((0,), (1,)), ((0, 1), (1, 0), (0, 2)), ((0, 1, 2), (1, 2, 0)), HAND + HAND]


def square(n, signs, dice):
    """A drawn table of n rows and columns."""
    return tuple(dice.part(range(signs), n) for _ in range(n))


def partings_by_words(table):
    """All partings of a table, by going through its cross-cuts."""
    n = len(table)
    cuts = cuts_by_words(table)
    rows = [[each for each in cuts if each[0] == column] for column in range(n)]
    return [list(row) for row in itertools.product(*rows)
            if len({cell for each in row for cell in each.items()}) == n * n]


class Partings(unittest.TestCase):
    def check(self, table, found):
        """Check a parting of the table, and its mate."""
        n = len(table)
        self.assertIs(is_parting(table, found), True)
        self.assertIs(is_parting(table, tuple(found)), True)
        self.assertEqual([each[0] for each in found], list(range(n)))
        for each in found:
            self.assertIs(is_cut(table, each), True)
            self.assertEqual(list(each), list(range(n)))
        self.assertEqual(len({cell for each in found for cell in each.items()}), n * n)
        other = mate(table, found)
        self.assertIs(is_table(other), True)
        for number, each in enumerate(found):
            for row, column in each.items():
                self.assertEqual(other[row][column], number)
        for column in range(n):
            self.assertEqual(sorted(row[column] for row in other), list(range(n)))
        signs = {(table[row][column], other[row][column]) for row in range(n) for column in range(n)}
        self.assertEqual(len(signs), n * n)
        self.assertEqual(mate(table, tuple(found)), other)
        return other

    def check_table(self, table):
        """Check whether the table has a parting, against all of them."""
        due = partings_by_words(table)
        found = parting(table)
        if due:
            self.assertIn(found, due)
            for each in due[:2] + due[-2:]:
                self.check(table, each)
        else:
            self.assertIsNone(found)
        return bool(due)

    def test_by_hand(self):
        self.assertEqual(moves_table((3,), ((0,), (1,), (2,))), HAND)
        self.assertEqual(parting_by((3,), CUT), HAND_PARTING)
        self.assertEqual(self.check(HAND, HAND_PARTING), ((0, 1, 2), (2, 0, 1), (1, 2, 0)))
        self.check(HAND, parting(HAND))

    def test_small_tables(self):
        found = set()
        for sign in range(8):
            self.assertEqual(parting(((sign,),)), [{0: 0}])
            self.assertEqual(mate(((sign,),), [{0: 0}]), ((0,),))
        rows = list(itertools.permutations(range(8), 2))
        for table in itertools.product(rows, rows[:8] + rows[-8:]):
            found.add((2, self.check_table(table)))
        rows = list(itertools.permutations(range(4), 3))
        for table in itertools.product(((0, 1, 2), (3, 1, 0)), rows, rows):
            found.add((3, self.check_table(table)))
        dice = Dice(370)
        for _ in range(60):
            found.add((3, self.check_table(square(3, dice.number(3, 8), dice))))
        self.assertEqual(found, {(2, True), (2, False), (3, True), (3, False)})

    def test_four_and_five_rows(self):
        dice = Dice(371)
        found = set()
        for _ in range(40):
            table = square(4, dice.number(4, 8), dice)
            found.add((4, self.check_table(table)))
        for _ in range(20):
            table = square(5, dice.number(5, 8), dice)
            some = parting(table)
            found.add((5, some is not None))
            if some is not None:
                self.check(table, some)
        self.assertLessEqual({(4, True), (4, False), (5, True)}, found)
        for n in (1, 2, 3, 4, 5):
            same = (tuple(range(n)),) * n
            self.check(same, parting(same))
        for table in (((0, 1, 2, 3, 4),) * 4 + ((1, 0, 2, 3, 4),), moves_table((4,), tuple(places((4,))))):
            self.assertIsNone(parting(table))

    def test_too_many(self):
        for n in (6, 7, 8):
            with self.assertRaises(TooMany) as caught:
                parting((tuple(range(n)),) * n)
            self.assertEqual(caught.exception.most, 5)
            self.assertRaises(BadTable, parting, (tuple(range(n)),) * (n - 1))
            self.assertRaises(BadTable, parting, (tuple(range(n)),) * (n + 1))

    def test_all_dials(self):
        for dials in ALL_DIALS:
            rows = places(dials)
            table = moves_table(dials, tuple(rows))
            twice = [move for move in rows[1:] if not any(added(dials, move, move))]
            cuts = cuts_by_words(table) if len(rows) < 7 else self.some_cuts(dials, table)
            self.assertIs(cuts == [], len(twice) == 1)
            for cut in cuts[:40]:
                found = parting_by(dials, {row: cut[row] for row in sorted(cut, reverse=True)})
                self.check(table, found)
                self.assertEqual(found[cut[0]], cut)
                for number, each in enumerate(found):
                    by = added(dials, rows[number], back(dials, rows[cut[0]]))
                    self.assertEqual(each, {row: rows.index(added(dials, rows[cut[row]], by)) for row in cut})
            if len(rows) < 6:
                self.assertIs(parting(table) is None, cuts == [])

    def some_cuts(self, dials, table):
        """Some of the cross-cuts of a large table with the column 0 in the row 0, by going through its columns."""
        n = len(table)
        found = []
        for columns in itertools.permutations(range(1, n)):
            row = (0,) + columns
            if len({table[at][row[at]] for at in range(n)}) == n:
                found.append(dict(enumerate(row)))
                if len(found) == 20:
                    break
        return found

    def test_is_parting_of_any_value(self):
        self.assertIs(is_parting(HAND, tuple(HAND_PARTING)), True)
        self.assertIs(is_parting(HAND, [{2: each[2], 0: each[0], 1: each[1]} for each in HAND_PARTING]), True)
        for at, each in enumerate(HAND_PARTING):
            for other in variants(each) + HAND_PARTING[:at] + HAND_PARTING[at + 1:]:
                self.assertIs(is_parting(HAND, HAND_PARTING[:at] + [other] + HAND_PARTING[at + 1:]), False)
        for thing in ODD + [[], (), {}, CUT, [CUT], HAND_PARTING[:2], HAND_PARTING[1:], HAND_PARTING + HAND_PARTING[:1],
                            HAND_PARTING[::-1], [HAND_PARTING[0], HAND_PARTING[2], HAND_PARTING[1]], [CUT] * 3,
                            dict(enumerate(HAND_PARTING)), [HAND_PARTING], [None] * 3, [nested("dict")] * 3,
                            (nested("list"), CUT, CUT), [{}, {}, {}], "cut", HAND, [{0: 0, 1: 1, 2: 2, 3: 3}] * 3]:
            with self.subTest(thing=thing):
                self.assertIs(is_parting(HAND, thing), False)
        self.assertIs(is_parting(((5,),), [{0: False}]), False)
        self.assertIs(is_parting(((5,),), [{False: 0}]), False)
        self.assertIs(is_parting(((5,),), ({0: 0},)), True)

    def test_a_cell_twice(self):
        # All rows are alike: each way to have unlike columns is a cross-cut.
        table = ((0, 1, 2),) * 3
        good = [{0: 0, 1: 1, 2: 2}, {0: 1, 1: 2, 2: 0}, {0: 2, 1: 0, 2: 1}]
        twice = [{0: 0, 1: 1, 2: 2}, {0: 1, 1: 0, 2: 2}, {0: 2, 1: 0, 2: 1}]
        for each in twice:
            self.assertIs(is_cut(table, each), True)
        self.assertIs(is_parting(table, good), True)
        self.assertIs(is_parting(table, twice), False)
        self.assertRaises(BadParting, mate, table, twice)

    def test_calls(self):
        bad = [both(NOT_SQUARE, BadTable)]
        check_calls(self, parting, ["table"], (HAND,), bad)
        check_calls(self, parting, ["table"], (((0, 1), (0, 2)),), bad)
        check_calls(self, is_parting, ["table", "thing"], (HAND, HAND_PARTING), bad)
        check_calls(self, is_parting, ["table", "thing"], (HAND, None), bad)
        wrong = both(ODD + [[], (), HAND_PARTING[:2], HAND_PARTING[::-1], CUT, [CUT] * 3], BadParting)
        check_calls(self, mate, ["table", "parting"], (HAND, HAND_PARTING), bad + [wrong])
        check_calls(self, mate, ["table", "parting"], (HAND, tuple(HAND_PARTING)), bad + [wrong])
        wrong = both(ODD + [{}, {0: 0}, {0: 0, 1: 0, 2: 0}, {0: 0, 1: 2, 2: 1}, {0: 0, 1: 1, 3: 2}, [(0, 0)], [CUT],
                            {0: 0, 1: 1, 2: 3}, {False: 0, 1: 1, 2: 2}, {0: False, 1: 1, 2: 2}, 0, ()], BadCut)
        check_calls(self, parting_by, ["dials", "cut"], ((3,), {2: 2, 0: 0, 1: 1}), [both(NOT_DIALS, BadDials), wrong])
        for dials in ((2,), (4,), (2, 3), (6,), (8,)):
            n = len(places(dials))
            self.assertRaises(BadCut, parting_by, dials, dict(enumerate(range(n))))


if __name__ == "__main__":
    unittest.main()
