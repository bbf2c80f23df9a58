"""Point 31, close.py, and guarantee (c)."""

import itertools
import unittest

from pairpicks.close import close_pick, is_close, is_full, left_lone
from pairpicks.errors import BadBook, BadClose, BadFull
from pairpicks.lone import is_lone
from pairpicks.lonemore import with_changed
from pairpicks.picks import is_pick
from tests.helper import NOT_BOOKS, Dice, both, check_calls, is_lone_by_hand, most_pairs
from tests.test_lone import RINGS2, THREE, TWO, some_lone

SQUARES = [tuple((k, k) for k in range(size)) for size in range(9)]


class Kinds(unittest.TestCase):
    def test_how_many_plans_of_which_sizes(self):
        for many in range(1, 17):
            for size in range(9):
                book = (SQUARES[size],) * many
                self.assertIs(is_close(book), many % 2 == 0 and many <= 14 and size >= many // 2 + 1)
                self.assertIs(is_full(book), many % 2 == 1 and many >= 3 and size >= (many + 1) // 2)
                self.assertIs(is_close(thing=book), is_close(book))
                self.assertIs(is_full(thing=book), is_full(book))

    def test_one_plan_too_small(self):
        for k in range(2, 9):
            for at in (0, k - 1, 2 * k - 3):
                plans = [SQUARES[8]] * (2 * k - 2)
                plans[at] = SQUARES[k]
                self.assertIs(is_close(tuple(plans)), True)
                self.assertIs(is_full(tuple(plans + [SQUARES[k]])), True)
                plans[at] = SQUARES[k - 1]
                self.assertIs(is_close(tuple(plans)), False)
                self.assertIs(is_full(tuple(plans + [SQUARES[k]])), False)

    def test_any_value(self):
        for thing in NOT_BOOKS + [list(TWO), (list(TWO[0]), TWO[1]), [TWO[0]] * 3]:
            with self.subTest(thing=thing):
                self.assertIs(is_close(thing), False)
                self.assertIs(is_full(thing), False)


class ClosePick(unittest.TestCase):
    def check(self, book):
        """The pick of a close book, as it must be, or that the book is lone."""
        pick = close_pick(book)
        self.assertIs(pick is None, is_lone_by_hand(book))
        if pick is not None:
            self.assertIs(is_pick(book, pick), True)
            self.assertEqual((len(pick), list(pick)), (len(book) // 2 + 1, sorted(pick)))

    def test_guarantee_c_for_two_plans(self):
        plans = [((p, a), (q, b)) for p, q in itertools.combinations(range(3), 2)
                 for a, b in itertools.permutations(range(3), 2)]
        for book in itertools.product(plans, repeat=2):
            self.check(book)
            self.assertIs(is_lone(book), most_pairs(book) < 2)

    def test_guarantee_c_for_four_plans(self):
        plans = [tuple(zip(range(3), row)) for row in itertools.permutations(range(3))]
        for book in itertools.product(plans, repeat=4):
            self.check(book)
            self.assertIs(is_lone(book), most_pairs(book) < 3)
        dice = Dice(90)
        for _ in range(60):
            book = dice.book(4, least=3, most=4, among=4)
            self.check(book)
            self.assertIs(is_lone(book), most_pairs(book) < 3)

    def test_guarantee_c_for_six_plans(self):
        dice = Dice(91)
        for among in (4, 4, 5, 8):
            book = dice.book(6, least=4, most=4, among=among)
            self.check(book)
            self.assertIs(is_lone(book), most_pairs(book) < 4)
        self.check(RINGS2 * 3)
        self.assertGreaterEqual(most_pairs(RINGS2 * 3), 4)

    def test_close_books_of_all_lengths(self):
        dice = Dice(92)
        for k in list(range(2, 9)) * 8:
            self.check(dice.book(2 * k - 2, least=k, most=k, among=k))
            self.check(dice.book(2 * k - 2, least=k))
            book, _ = some_lone(dice, k)
            self.check(book)
            for plan in (dice.plan(k), dice.plan(k, max(k, 3)), book[0], book[-1]):
                self.check(with_changed(book, dice.number(0, len(book) - 1), plan))
            if k < 8:
                free = [set(range(8)) - {pair[at] for pair in book[0]} for at in (0, 1)]
                number = dice.number(0, len(book) - 1)
                self.check(with_changed(book, number, tuple(sorted(book[number] + ((min(free[0]), max(free[1])),)))))

    def test_by_hand(self):
        self.assertIsNone(close_pick(TWO))
        self.assertIsNone(close_pick(THREE))
        self.assertIn(close_pick((TWO[0], TWO[0])), [{0: (0, 0), 1: (1, 1)}, {0: (1, 1), 1: (0, 0)}])
        self.assertEqual(close_pick((TWO[0], ((0, 1), (1, 2)))), {0: (0, 0), 1: (1, 2)})

    def test_calls(self):
        wrong = [((),), TWO[:1], TWO * 2, TWO + TWO[:1], (TWO[0], ((0, 0),)), (SQUARES[8],) * 16, (SQUARES[8],) * 15]
        check_calls(self, close_pick, ["book"], ((TWO[0], TWO[0]),), [both(NOT_BOOKS, BadBook) + both(wrong, BadClose)])
        check_calls(self, close_pick, ["book"], (THREE,), [both(wrong, BadClose)])


class LeftLone(unittest.TestCase):
    def test_by_hand(self):
        self.assertEqual(left_lone(TWO + (TWO[1],)), (1, 2))
        self.assertEqual(left_lone((TWO[1],) + TWO), (0, 2))
        self.assertEqual(left_lone((TWO[0],) * 3), ())
        self.assertEqual(left_lone((TWO[0], ((2, 2), (3, 3)), TWO[1])), (1,))

    def test_none_one_or_k(self):
        dice = Dice(93)
        for k in list(range(2, 9)) * 6:
            book, _ = some_lone(dice, k)
            at = dice.number(0, len(book))
            for plan in (book[0], book[-1], dice.plan(k), dice.plan(dice.number(k, 8)), dice.plan(k, k)):
                full = book[:at] + (plan,) + book[at:]
                left = left_lone(full)
                due = [number for number in range(2 * k - 1) if is_lone_by_hand(full[:number] + full[number + 1:])]
                self.assertEqual(left, tuple(due))
                self.assertEqual(len(left), k if plan in book else 1)
                if plan in book:
                    self.assertEqual(left, tuple(number for number in range(2 * k - 1) if full[number] == plan))
            full = dice.book(2 * k - 1, least=k)
            due = [number for number in range(2 * k - 1) if is_lone_by_hand(full[:number] + full[number + 1:])]
            self.assertEqual(left_lone(full), tuple(due))

    def test_calls(self):
        wrong = [((),), TWO[:1], TWO, TWO + ((),), TWO + (((0, 0),),), (SQUARES[8],) * 16, THREE, THREE + TWO[:1]]
        check_calls(self, left_lone, ["book"], (TWO + (TWO[1],),), [both(NOT_BOOKS, BadBook) + both(wrong, BadFull)])


if __name__ == "__main__":
    unittest.main()
