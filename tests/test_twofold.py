"""Point 32, twofold.py."""

import unittest

from pairpicks.errors import BadNumber, BadPlan
from pairpicks.picks import is_pick, pick_of
from pairpicks.plans import is_book
from pairpicks.rings import pieces, ring_of
from pairpicks.twofold import twofold, twofold_most, twofold_pick
from tests.helper import NOT_NUMBERS, NOT_PLANS, Dice, both, check_calls, most_pairs

NAMES = ["one", "other", "many", "more"]
# A ring, a pair of both plans and a trail side by side.
LEFT = ((0, 0), (1, 1), (2, 2), (3, 3), (4, 5), (7, 7))
RIGHT = ((0, 1), (1, 0), (2, 2), (3, 4), (4, 3))


def most_by_words(one, other, many, more):
    """The greatest sum of x and y, piece by piece, as the document tells what can be taken."""
    sums = {(0, 0)}
    for persons, _, kind in pieces(one, other):
        p = sum(pair[0] in persons for pair in one)
        q = sum(pair[0] in persons for pair in other)
        ways = []
        for x in range(p + 1):
            for y in range(q + 1):
                if kind == "same":
                    fits = x + y <= 1
                elif kind == "ring":
                    fits = x + y <= p - 1 or (x, y) in ((p, 0), (0, p))
                else:
                    fits = x + y <= min(p, q) or (x, y) in ((p, 0), (0, q))
                if fits:
                    ways.append((x, y))
        sums = {(a + x, b + y) for a, b in sums for x, y in ways if a + x <= many and b + y <= more}
    return max(a + b for a, b in sums)


class Twofold(unittest.TestCase):
    def check(self, one, other, many, more):
        most = twofold_most(one, other, many, more)
        book = twofold(one, other, many, more)
        pick = twofold_pick(one, other, many, more)
        self.assertIs(is_pick(book, pick), True)
        self.assertEqual((len(pick), list(pick)), (most, sorted(pick)))
        self.assertEqual(most, most_by_words(one, other, many, more))
        return most

    def test_by_hand(self):
        one, other = ((0, 0), (1, 1)), ((1, 0), (2, 1))
        self.assertEqual(self.check(one, other, 1, 1), 2)
        self.assertEqual(twofold(one, other, 2, 1), (one, one, other))

    def test_twofold(self):
        self.assertEqual(twofold(LEFT, RIGHT, 0, 1), (RIGHT,))
        self.assertEqual(twofold(LEFT, RIGHT, 1, 0), (LEFT,))
        self.assertEqual(twofold(LEFT, LEFT, 1, 2), (LEFT,) * 3)
        self.assertEqual(twofold((), (), 8, 8), ((),) * 16)
        for many in range(9):
            for more in range(9):
                if many + more:
                    book = twofold(LEFT, RIGHT, many, more)
                    self.assertEqual(book, (LEFT,) * many + (RIGHT,) * more)
                    self.assertIs(is_book(book), True)

    def test_rings(self):
        for k in range(2, 9):
            one, other = ring_of(tuple(range(k)), tuple(range(k)))
            for many in range(9):
                for more in range(9):
                    if many + more:
                        due = k if many >= k or more >= k else min(many + more, k - 1)
                        self.assertEqual(self.check(one, other, many, more), due)

    def test_trails(self):
        for p, q in ((1, 0), (0, 1), (1, 1), (2, 1), (1, 2), (3, 3), (4, 3), (3, 4), (8, 7)):
            one = tuple((k, k) for k in range(p))
            other = tuple((k, k + 1) for k in range(q)) if q <= p else tuple((k, k - 1) for k in range(1, q))
            for many in range(9):
                for more in range(9):
                    if many + more:
                        self.check(one, other[:7] if p == 8 else other, many, more)

    def test_pieces_side_by_side(self):
        kinds = [kind for _, _, kind in pieces(LEFT, RIGHT)]
        self.assertEqual(sorted(kinds), ["ring", "same", "trail", "trail"])
        for many in range(9):
            for more in range(9):
                if many + more:
                    most = self.check(LEFT, RIGHT, many, more)
                    self.assertEqual(most, self.check(RIGHT, LEFT, more, many))
                    self.assertIsNone(pick_of(twofold(LEFT, RIGHT, many, more), most + 1))

    def test_counted_plan_by_plan(self):
        dice = Dice(100)
        for _ in range(150):
            among = dice.number(1, 4)
            one, other = dice.plan(dice.number(0, among), among), dice.plan(dice.number(0, among), among)
            many, more = dice.number(0, 3), dice.number(1, 3)
            self.assertEqual(self.check(one, other, many, more), most_pairs(twofold(one, other, many, more)))

    def test_plans_of_all_kinds(self):
        dice = Dice(101)
        for _ in range(150):
            among = dice.number(4, 8)
            one, other = dice.plan(dice.number(0, among), among), dice.plan(dice.number(0, among), among)
            many, more = dice.number(1, 8), dice.number(0, 8)
            most = self.check(one, other, many, more)
            self.assertIsNone(pick_of(twofold(one, other, many, more), most + 1))

    def test_calls(self):
        numbers = NOT_NUMBERS + [-1, 9, 16, 999999999]
        bad = [both(NOT_PLANS, BadPlan), both(NOT_PLANS, BadPlan), both(numbers, BadNumber), both(numbers, BadNumber)]
        for function in (twofold, twofold_most, twofold_pick):
            check_calls(self, function, NAMES, (LEFT, RIGHT, 2, 1), bad)
            check_calls(self, function, NAMES, (LEFT, RIGHT, 0, 8), [[], [], [], both([0, False], BadNumber)])
            check_calls(self, function, NAMES, ((), (), 8, 0), bad)
            self.assertRaises(BadNumber, function, LEFT, RIGHT, 0, 0)
            self.assertRaises(BadPlan, function, LEFT, None, 0, 0)


if __name__ == "__main__":
    unittest.main()
