"""Point 31, lonemore.py."""

import itertools
import unittest

from pairpicks.errors import BadBook, BadLone, BadNumber, BadPair, BadPlan
from pairpicks.lone import lone_of, spared_many
from pairpicks.lonemore import changed_pick, more_many, with_changed, with_more
from pairpicks.picks import is_pick
from tests.helper import NOT_BOOKS, NOT_NUMBERS, NOT_PAIRS, NOT_PLANS, Dice, all_picks, both, check_calls
from tests.test_lone import NOT_LONE, THREE, TWO, some_lone

BOOKS = both(NOT_BOOKS, BadBook) + both(NOT_LONE, BadLone)
PAIRS = list(itertools.product(range(8), repeat=2))


class OneMore(unittest.TestCase):
    def test_by_hand(self):
        self.assertIn(with_more(TWO, (0, 2)), [{0: (1, 1), 2: (0, 2)}, {1: (1, 0), 2: (0, 2)}])
        self.assertEqual(more_many(TWO, (0, 2)), 2)
        self.assertEqual(with_more(TWO, (0, 0)), {0: (1, 1), 2: (0, 0)})
        self.assertEqual(with_more(TWO, (0, 1)), {1: (1, 0), 2: (0, 1)})
        self.assertEqual([more_many(TWO, pair) for pair in ((0, 0), (5, 1), (5, 5))], [1, 2, 4])

    def test_any_pair(self):
        dice = Dice(80)
        for k in range(2, 9):
            book, (persons, desks, _) = some_lone(dice, k)
            for pair in PAIRS:
                pick = with_more(book, pair)
                self.assertIs(is_pick(book + ((pair,),), pick), True)
                self.assertEqual((len(pick), list(pick)), (k, sorted(pick)))
                self.assertEqual(pick[len(book)], pair)

    def test_counted_one_by_one(self):
        dice = Dice(81)
        for k in (2, 3, 4):
            book, _ = some_lone(dice, k)
            for pair in PAIRS:
                due = [pick for pick in all_picks(book + ((pair,),)) if len(pick) == k]
                self.assertEqual(more_many(book, pair), len(due))
                self.assertIn(with_more(book, pair), due)

    def test_sums_of_spared_many(self):
        dice = Dice(82)
        for k in (5, 6, 7, 8):
            book, (persons, desks, _) = some_lone(dice, k)
            for person, desk in (PAIRS[0], PAIRS[9], PAIRS[62], (persons[0], desks[1]), (persons[1], PAIRS[62][1])):
                due = sum(spared_many(book, p, d) for p in persons for d in desks
                          if (p == person or person not in persons) and (d == desk or desk not in desks))
                self.assertEqual(more_many(book, (person, desk)), due)

    def test_calls(self):
        for function in (with_more, more_many):
            for pair in ((0, 2), (0, 0), (5, 6), (7, 7)):
                check_calls(self, function, ["book", "pair"], (THREE, pair), [BOOKS, both(NOT_PAIRS, BadPair)])


class Changed(unittest.TestCase):
    def test_with_changed(self):
        self.assertEqual(with_changed(TWO, 0, ((3, 4),)), (((3, 4),), TWO[1]))
        self.assertEqual(with_changed(TWO, 1, ()), (TWO[0], ()))
        self.assertEqual(with_changed(THREE, 2, THREE[1]), (THREE[0], THREE[1], THREE[1], THREE[3]))
        self.assertEqual(with_changed(THREE, 3, THREE[3]), THREE)

    def check(self, book, number, plan):
        """The pick of k pairs in the changed book, as it must be, and whether there is none."""
        k = len(book) // 2 + 1
        pick = changed_pick(book, number, plan)
        if set(plan) <= set(book[number]):
            self.assertIsNone(pick)
        else:
            self.assertIs(is_pick(with_changed(book, number, plan), pick), True)
            self.assertEqual((len(pick), list(pick)), (k, sorted(pick)))
        return pick

    def test_plans_of_all_kinds(self):
        dice = Dice(83)
        for k in range(2, 9):
            book, _ = some_lone(dice, k)
            for number in range(len(book)):
                other = next(plan for plan in book if plan != book[number])
                part = tuple(sorted(dice.part(book[number], dice.number(1, k - 1))))
                others = dice.plan(k), dice.plan(k, max(k, 4)), dice.plan(dice.number(0, 8))
                for plan in (book[number], (), part, other, other[:1], other[-1:]) + others:
                    self.check(book, number, plan)

    def test_one_pair_alone(self):
        dice = Dice(84)
        for k in (2, 3, 8):
            book, _ = some_lone(dice, k)
            for pair in PAIRS:
                self.check(book, 0, (pair,))
                self.check(book, len(book) - 1, (pair,))

    def test_new_pair_behind_old_ones(self):
        self.assertIsNone(changed_pick(TWO, 0, ((0, 0),)))
        self.assertEqual(len(changed_pick(TWO, 0, ((0, 0), (2, 2)))), 2)
        self.assertEqual(len(changed_pick(TWO, 0, ((0, 0), (1, 2)))), 2)

    def test_against_all_picks(self):
        dice = Dice(85)
        for k in (2, 3, 4):
            for _ in range(25):
                book, _ = some_lone(dice, k)
                number, plan = dice.number(0, len(book) - 1), dice.plan(dice.number(0, k + 1), dice.number(k + 1, 8))
                due = [pick for pick in all_picks(with_changed(book, number, plan)) if len(pick) == k]
                self.assertEqual(self.check(book, number, plan) is None, due == [])

    def test_calls(self):
        book = lone_of((3, 1, 4), (1, 5, 6), (0, 3))
        bad = [BOOKS, both(NOT_NUMBERS + [-1, 4, 16, 999999999], BadNumber), both(NOT_PLANS, BadPlan)]
        for function in (with_changed, changed_pick):
            for plan in (((0, 0), (1, 2)), (), book[1]):
                check_calls(self, function, ["book", "number", "plan"], (book, 1, plan), bad)
            self.assertRaises(BadNumber, function, book, False, ())


if __name__ == "__main__":
    unittest.main()
