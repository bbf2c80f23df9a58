"""Point 12."""

import itertools
import unittest

from pairpicks.errors import BadPerson, BadPlan, BadRow, NoRing
from pairpicks.plans import desks_of, is_plan, persons_of
from pairpicks.rings import are_ring, pieces, ring_of, row_of, swapped
from tests.helper import NOT_PERSONS, NOT_PLANS, ODD, Dice, both, check_calls

FIRST, SECOND = ((0, 0), (1, 1)), ((0, 1), (1, 0))
NOT_ROWS = ODD + [
    (), {}, 0, 3, (0,), (0, 0), (0, 1, 0), [0, 1], (0, 8), (-1, 0), (True, 0), (1, False), (0, None), (0, "1"),
    (0, (1,)), ((0, 1),), {0: 1, 1: 2}, "01", tuple(range(9)), tuple(range(1, 9)), (0, 1, 2, 3, 4, 5, 6, 7, 0),
]


def pieces_by_hand(one, other):
    """The pieces, by uniting the persons and desks of each pair."""
    lots = []
    for person, desk in set(one) | set(other):
        lot = {("person", person), ("desk", desk)}
        lots = [each for each in lots if not each & lot] + [lot.union(*[each for each in lots if each & lot])]
    found = []
    for lot in lots:
        persons = tuple(sorted(number for kind, number in lot if kind == "person"))
        desks = tuple(sorted(number for kind, number in lot if kind == "desk"))
        pairs = {pair for pair in one + other if pair[0] in persons}
        everywhere = all(set(persons) <= set(persons_of(plan)) and set(desks) <= set(desks_of(plan))
                         for plan in (one, other))
        if len(pairs) == 1 and pairs <= set(one) & set(other):
            kind = "same"
        else:
            kind = "ring" if everywhere else "trail"
        found.append((persons, desks, kind))
    return sorted(found)


class Pieces(unittest.TestCase):
    def test_by_hand(self):
        self.assertEqual(pieces(FIRST, SECOND), [((0, 1), (0, 1), "ring")])
        self.assertIs(are_ring(FIRST, SECOND), True)
        self.assertEqual(ring_of((0, 1), (0, 1)), (FIRST, SECOND))
        told = pieces(((0, 0), (1, 1)), ((0, 0), (1, 2)))
        self.assertEqual(told, [((0,), (0,), "same"), ((1,), (1, 2), "trail")])

    def test_single_pieces(self):
        self.assertEqual(pieces((), ()), [])
        self.assertEqual(pieces(((3, 4),), ()), [((3,), (4,), "trail")])
        self.assertEqual(pieces((), ((3, 4),)), [((3,), (4,), "trail")])
        self.assertEqual(pieces(((3, 4),), ((3, 4),)), [((3,), (4,), "same")])
        self.assertEqual(pieces(((3, 4),), ((5, 4),)), [((3, 5), (4,), "trail")])
        self.assertEqual(pieces(((0, 0), (1, 1)), ((0, 1),)), [((0, 1), (0, 1), "trail")])
        eight = tuple((k, k) for k in range(8))
        self.assertEqual(pieces(eight, eight), [((k,), (k,), "same") for k in range(8)])

    def test_several_side_by_side(self):
        one = ((0, 0), (1, 1), (2, 3), (4, 6), (5, 7), (7, 2))
        other = ((0, 1), (1, 0), (2, 3), (3, 5), (4, 7), (5, 4))
        due = [((0, 1), (0, 1), "ring"), ((2,), (3,), "same"), ((3,), (5,), "trail"), ((4, 5), (4, 6, 7), "trail"),
               ((7,), (2,), "trail")]
        self.assertEqual(pieces(one, other), due)

    def test_against_uniting(self):
        dice = Dice(30)
        kinds = set()
        for _ in range(400):
            among = dice.number(1, 8)
            one, other = (dice.plan(dice.number(0, among), among) for _ in range(2))
            told = pieces(one, other)
            self.assertEqual(told, pieces_by_hand(one, other))
            kinds |= {(kind, len(persons)) for persons, desks, kind in told}
            for persons, desks, kind in told:
                self.assertLessEqual(abs(len(persons) - len(desks)), 1)
                self.assertEqual(kind == "ring" and (len(persons) < 2 or len(persons) != len(desks)), False)
            self.assertIs(are_ring(one, other), [kind for _, _, kind in told] == ["ring"])
        self.assertLessEqual({("same", 1), ("ring", 2), ("ring", 3), ("trail", 1), ("trail", 4)}, kinds)

    def test_calls(self):
        bad = [both(NOT_PLANS, BadPlan)] * 2
        check_calls(self, pieces, ["one", "other"], (FIRST, SECOND), bad)
        check_calls(self, are_ring, ["one", "other"], (FIRST, SECOND), bad)
        check_calls(self, row_of, ["one", "other"], (FIRST, SECOND), bad)


class Swapped(unittest.TestCase):
    def test_by_hand(self):
        one, other = ((0, 0), (1, 1), (2, 3)), ((0, 1), (1, 0), (2, 4))
        self.assertEqual(swapped(one, other, 0), ((0, 1), (1, 0), (2, 3)))
        self.assertEqual(swapped(one, other, 1), ((0, 1), (1, 0), (2, 3)))
        self.assertEqual(swapped(one, other, 2), ((0, 0), (1, 1), (2, 4)))
        self.assertEqual(swapped((), ((3, 4),), 3), ((3, 4),))
        self.assertEqual(swapped(((3, 4),), (), 3), ())

    def test_is_a_plan(self):
        dice = Dice(31)
        for _ in range(300):
            one, other = dice.plan(dice.number(0, 8)), dice.plan(dice.number(0, 8))
            for persons, _, _ in pieces(one, other):
                made = {swapped(one, other, person) for person in persons}
                self.assertEqual(len(made), 1)
                plan = made.pop()
                self.assertIs(is_plan(plan), True)
                due = [pair for pair in one if pair[0] not in persons] + [p for p in other if p[0] in persons]
                self.assertEqual(sorted(plan), sorted(due))

    def test_calls(self):
        names = ["one", "other", "person"]
        bad = [both(NOT_PLANS, BadPlan)] * 2 + [both(NOT_PERSONS + [2, 3, 7], BadPerson)]
        check_calls(self, swapped, names, (FIRST, SECOND, 1), bad)
        self.assertRaises(BadPerson, swapped, (), (), 0)
        self.assertRaises(BadPerson, swapped, ((2, 0),), ((3, 1),), 0)


class Rings(unittest.TestCase):
    def test_rings_of_all_lengths(self):
        dice = Dice(32)
        for many in range(2, 9):
            for _ in range(20):
                persons, desks = dice.part(range(8), many), dice.part(range(8), many)
                one, other = ring_of(persons, desks)
                self.assertIs(is_plan(one) and is_plan(other), True)
                self.assertEqual([dict(one)[person] for person in persons], list(desks))
                self.assertEqual([dict(other)[person] for person in persons], list(desks[1:] + desks[:1]))
                self.assertIs(are_ring(one, other), True)
                self.assertEqual(pieces(one, other), [(tuple(sorted(persons)), tuple(sorted(desks)), "ring")])
                row = row_of(one, other)
                self.assertEqual(ring_of(*row), (one, other))
                self.assertEqual(row[0][0], min(persons))
                at = persons.index(min(persons))
                self.assertEqual(row, (persons[at:] + persons[:at], desks[at:] + desks[:at]))

    def test_all_rings_of_three(self):
        plans = [tuple(zip(range(3), row)) for row in itertools.permutations(range(3))]
        for one, other in itertools.product(plans, repeat=2):
            self.assertIs(are_ring(one, other), all(a != b for a, b in zip(one, other)))

    def test_no_ring(self):
        two_rings = (FIRST + ((2, 2), (3, 3)), SECOND + ((2, 3), (3, 2)))
        for one, other in (((), ()), (FIRST, FIRST), (FIRST, ()), (((0, 0),), ((0, 0),)), two_rings,
                           (FIRST + ((2, 2),), SECOND + ((2, 2),)), (FIRST + ((2, 2),), SECOND),
                           (FIRST, ((0, 1), (1, 2)))):
            self.assertIs(are_ring(one, other), False)
            self.assertRaises(NoRing, row_of, one, other)
            self.assertRaises(NoRing, row_of, one=other, other=one)

    def test_ring_of_calls(self):
        bad = both(NOT_ROWS, BadRow)
        check_calls(self, ring_of, ["persons", "desks"], ((3, 1), (7, 0)), [bad, bad + both([(0, 1, 2)], BadRow)])
        for row in ((), (0,), (7,), tuple(range(9)), (0, 0), (0, 8), (False, True)):
            self.assertRaises(BadRow, ring_of, row, row)
        for many in range(2, 9):
            for other in range(2, 9):
                if many != other:
                    self.assertRaises(BadRow, ring_of, tuple(range(many)), tuple(range(other)))


if __name__ == "__main__":
    unittest.main()
