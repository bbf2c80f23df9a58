"""Point 50, and which books are small."""

import unittest

from pairpicks.books import rearranged, renamed, sure, turned_book
from pairpicks.errors import BadBook, BadDesks, BadNumbers, BadPersons, TooMany
from pairpicks.greatest import barred, greatest, greatest_pick
from pairpicks.guards import least_guard
from pairpicks.must import always, never, spare
from pairpicks.picks import is_pick
from pairpicks.plans import is_book
from pairpicks.trees import tree
from pairpicks.unions import lack, lacking
from tests.helper import NOT_BOOKS, Dice, both, check_calls, most_pairs, not_ascending

HAND = (((0, 0), (1, 1)), ((0, 1), (1, 0)), ((0, 0),))
SQUARE = tuple((k, k) for k in range(8))
NAMES = ["book", "numbers", "persons", "desks"]
# All functions that are marked +, and those that take eight plans, as calls of the book alone.
MARKED = [greatest, greatest_pick, least_guard, lambda book: tree(book, 9), always, never, spare]


class Greatest(unittest.TestCase):
    def check(self, book):
        """Check the greatest pick of a book, gone through by hand."""
        most = most_pairs(book)
        pick = greatest_pick(book)
        self.assertEqual(greatest(book), most)
        self.assertIs(is_pick(book, pick), True)
        self.assertEqual((len(pick), list(pick)), (most, sorted(pick)))
        self.assertGreaterEqual(most, sure(book))
        return most

    def test_by_hand(self):
        self.assertEqual(self.check(HAND), 2)
        self.assertEqual(greatest_pick(HAND), {0: (1, 1), 2: (0, 0)})
        self.assertEqual(self.check(HAND[:2]), 1)
        self.assertEqual(barred(HAND, (), (1,), ()), (((0, 0),), ((0, 1),), ((0, 0),)))
        self.assertEqual(greatest(barred(HAND, (), (1,), ())), 1)

    def test_small_books(self):
        dice = Dice(260)
        found = set()
        for _ in range(300):
            book = dice.small_book(6, 16)
            most = self.check(book)
            found.add(most)
            self.assertEqual(greatest(rearranged(book, dice.order(range(len(book))))), most)
            self.assertEqual(greatest(turned_book(renamed(book, dice.order(range(8)), dice.order(range(8))))), most)
            self.assertIn(greatest(book + (dice.plan(2),)) - most, (0, 1))
        self.assertLessEqual(set(range(6)), found)

    def test_books_at_the_limits(self):
        dice = Dice(261)
        for _ in range(60):
            book = dice.small_book()
            self.assertEqual(len(greatest_pick(book)), greatest(book))
            self.assertIs(is_pick(book, greatest_pick(book)), True)
        self.assertEqual(greatest(tuple((pair,) for pair in SQUARE)), 8)
        self.assertEqual(greatest((SQUARE, SQUARE, SQUARE, SQUARE[:4])), 4)
        self.assertEqual(greatest((SQUARE[:3],) * 8), 3)
        self.assertEqual(self.check((SQUARE[:1],) * 8), 1)

    def test_empty_plans(self):
        for many in range(1, 9):
            self.assertEqual(greatest(((),) * many), 0)
            self.assertEqual(greatest_pick(((),) * many), {})
        self.assertEqual(greatest_pick(((), SQUARE[:1], ())), {1: (0, 0)})

    def test_barred(self):
        dice = Dice(262)
        for many in list(range(1, 17)) * 10:
            book = dice.book(many)
            numbers, persons, desks = dice.members(book)
            less = barred(book, numbers, persons, desks)
            self.assertIs(is_book(less), True)
            for number, plan in enumerate(book):
                due = [pair for pair in plan
                       if number not in numbers and pair[0] not in persons and pair[1] not in desks]
                self.assertEqual(less[number], tuple(due))
            self.assertEqual(barred(book, (), (), ()), book)
            self.assertEqual(barred(book, tuple(range(many)), (), ()), ((),) * many)
            self.assertEqual(barred(book, (), tuple(range(8)), ()), ((),) * many)
            self.assertEqual(barred(book, (), (), tuple(range(8))), ((),) * many)

    def test_each_member_takes_one_pair_at_most(self):
        dice = Dice(263)
        for _ in range(150):
            book = dice.small_book(6, 18)
            members = dice.members(book)
            less = greatest(barred(book, *members))
            self.assertGreaterEqual(less, greatest(book) - sum(len(part) for part in members))
            self.assertLessEqual(less, greatest(book))

    def test_calls(self):
        for function in (greatest, greatest_pick):
            check_calls(self, function, ["book"], (HAND,), [both(NOT_BOOKS, BadBook)])
        persons = not_ascending(8)
        bad = [both(NOT_BOOKS, BadBook), both(not_ascending(3), BadNumbers), both(persons, BadPersons),
               both(persons, BadDesks)]
        check_calls(self, barred, NAMES, (HAND, (0, 2), (1, 7), ()), bad)
        check_calls(self, barred, NAMES, (HAND, (), (), (0, 1)), bad)
        check_calls(self, barred, NAMES, ((SQUARE,) * 16, (15,), (), (7,)), [[], both([(16,)], BadNumbers)])


class Small(unittest.TestCase):
    def refused(self, function, book, most):
        with self.assertRaises(TooMany) as caught:
            function(book)
        self.assertEqual(caught.exception.most, most)

    def test_eight_plans_and_twenty_eight_pairs(self):
        for function in MARKED:
            for book in (((),) * 8, (SQUARE, SQUARE, SQUARE, SQUARE[:4]), (SQUARE[:4],) * 4 + (SQUARE[:3],) * 4):
                function(book)
            for book in (((),) * 9, ((),) * 16, (SQUARE,) * 9, (SQUARE[:1],) * 9, (SQUARE[:4],) * 9):
                self.refused(function, book, 8)
            for book in ((SQUARE, SQUARE, SQUARE, SQUARE[:5]), (SQUARE[:4],) * 5 + (SQUARE[:3],) * 3, (SQUARE,) * 8):
                self.refused(function, book, 28)
            self.assertRaises(BadBook, function, ((),) * 17)
            self.assertRaises(BadBook, function, ((),) * 9 + (None,))

    def test_eight_plans_of_any_size(self):
        self.assertEqual([lack((SQUARE,) * 8), lacking((SQUARE,) * 8)], [4, tuple(range(8))])
        for function in (lack, lacking):
            for book in (((),) * 9, (SQUARE,) * 16):
                self.refused(function, book, 8)
            self.assertRaises(BadBook, function, ((),) * 17)

    def test_barred_takes_any_book(self):
        self.assertEqual(barred((SQUARE,) * 16, (), (), ()), (SQUARE,) * 16)


if __name__ == "__main__":
    unittest.main()
