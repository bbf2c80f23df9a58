"""Point 55."""

import unittest

from pairpicks.books import joined, rearranged, renamed, turned_book
from pairpicks.errors import BadBook, BadSize, TooMany
from pairpicks.greatest import greatest
from pairpicks.guards import least_guard
from pairpicks.many import picks, picks_many, tally
from tests.helper import NOT_BOOKS, NOT_NUMBERS, Dice, all_picks, both, check_calls

PAIR = (((0, 0), (1, 1)), ((0, 1), (1, 0)))
HAND = PAIR + (((0, 0),),)
SQUARE = tuple((k, k) for k in range(8))
# Of four pairs the one book has just 1000 picks, the other one 1001.
THOUSAND = (
    ((0, 4), (1, 5), (2, 3), (6, 2)), ((0, 3), (1, 2), (5, 4), (7, 1)), ((0, 3), (1, 2), (5, 4), (7, 1)),
    ((0, 3), (1, 2), (5, 4), (7, 1)), ((0, 2), (3, 5), (4, 6), (5, 1), (7, 3)), ((0, 3), (1, 2), (5, 4), (7, 1)),
    ((2, 6), (3, 3)),
)
MORE = (
    ((1, 1), (3, 3), (6, 2), (7, 6)), ((0, 3), (1, 1), (2, 0), (4, 7), (6, 6), (7, 5)), ((5, 5), (7, 2)),
    ((3, 4), (5, 6)), ((1, 2), (7, 4)), ((0, 3), (1, 4), (2, 0), (4, 1), (6, 6), (7, 2)),
    ((0, 0), (1, 2), (5, 7), (7, 5)),
)
NOT_A_SIZE = NOT_NUMBERS + [-1, 9, 10, 999999999, -999999999]


def listed(pick):
    """The list of the pairs (number, pair) of a pick, the numbers ascending."""
    return sorted(pick.items())


class Many(unittest.TestCase):
    def check(self, book):
        """Check the picks of each size, against all picks gone through."""
        everything = all_picks(book)
        most = max(len(pick) for pick in everything)
        counted = tally(book)
        self.assertEqual(list(counted), list(range(most + 1)))
        self.assertEqual(greatest(book), most)
        for size in range(9):
            due = sorted([pick for pick in everything if len(pick) == size], key=listed)
            self.assertEqual(picks_many(book, size), len(due))
            self.assertEqual(counted.get(size, 0), len(due))
            if len(due) > 1000:
                with self.assertRaises(TooMany) as caught:
                    picks(book, size)
                self.assertEqual(caught.exception.most, 1000)
            else:
                found = picks(book, size)
                self.assertEqual(found, due)
                for pick in found:
                    self.assertEqual(list(pick), sorted(pick))
        return most

    def test_by_hand(self):
        self.assertEqual(tally(PAIR), {0: 1, 1: 4})
        self.assertEqual(tally(HAND), {0: 1, 1: 5, 2: 1})
        self.assertEqual(picks(PAIR, 0), [{}])
        self.assertEqual(picks(PAIR, 1), [{0: (0, 0)}, {0: (1, 1)}, {1: (0, 1)}, {1: (1, 0)}])
        self.assertEqual([picks(PAIR, 2), picks(PAIR, 8)], [[], []])
        self.assertEqual(picks(HAND, 2), [{0: (1, 1), 2: (0, 0)}])
        self.assertEqual([picks_many(HAND, size) for size in range(9)], [1, 5, 1] + [0] * 6)

    def test_books_of_all_kinds(self):
        dice = Dice(310)
        found = set()
        for _ in range(150):
            found.add(self.check(dice.small_book(6, 16)))
        self.assertLessEqual({0, 1, 2, 3, 4, 5}, found)
        for many in range(1, 9):
            self.assertEqual(self.check(((),) * many), 0)
            self.assertEqual(tally(((),) * many), {0: 1})

    def test_large_books(self):
        dice = Dice(311)
        for _ in range(3):
            self.check(dice.book_of((4, 3, 4, 3, 4, 3, 4, 3)))

    def test_at_the_limit(self):
        self.assertEqual(picks_many(THOUSAND, 4), 1000)
        self.assertEqual(len(picks(THOUSAND, 4)), 1000)
        self.assertEqual(picks_many(MORE, 4), 1001)
        for _ in range(2):
            with self.assertRaises(TooMany) as caught:
                picks(MORE, 4)
            self.assertEqual(caught.exception.most, 1000)
        self.assertEqual([self.check(THOUSAND), self.check(MORE)], [6, 6])
        self.assertEqual(len(picks(MORE, 1)), picks_many(MORE, 1))

    def test_too_many_comes_last(self):
        large = (SQUARE[:4],) * 8
        for book, most in ((large, 28), (large + ((),), 8), (((),) * 9, 8), ((SQUARE,) * 16, 8)):
            for function in (picks, picks_many):
                for size in (0, 1, 4, 8):
                    with self.assertRaises(TooMany) as caught:
                        function(book, size)
                    self.assertEqual(caught.exception.most, most)
                for size in (9, -1, True, None):
                    self.assertRaises(BadSize, function, book, size)
            with self.assertRaises(TooMany) as caught:
                tally(book)
            self.assertEqual(caught.exception.most, most)
        self.assertRaises(BadSize, picks, MORE, True)
        self.assertRaises(BadSize, picks, MORE, 9)

    def test_joined_books(self):
        dice = Dice(312)
        for _ in range(40):
            one = dice.book(dice.number(1, 4), most=3, among=4)
            other = dice.book(dice.number(1, 4), most=3, among=4)
            away = renamed(other, (4, 5, 6, 7, 0, 1, 2, 3), (5, 4, 7, 6, 1, 0, 3, 2))
            first, second, both_books = tally(one), tally(away), tally(joined(one, away))
            self.assertEqual(second, tally(other))
            self.assertEqual(greatest(joined(one, away)), greatest(one) + greatest(other))
            for size in both_books:
                due = sum(first[i] * second.get(size - i, 0) for i in first)
                self.assertEqual(both_books[size], due)
            members = [sum(len(part) for part in least_guard(book)) for book in (one, away, joined(one, away))]
            self.assertEqual(members[2], members[0] + members[1])

    def test_books_told_otherwise(self):
        dice = Dice(313)
        for _ in range(60):
            book = dice.small_book()
            counted = tally(book)
            self.assertEqual(tally(rearranged(book, dice.order(range(len(book))))), counted)
            self.assertEqual(tally(renamed(book, dice.order(range(8)), dice.order(range(8)))), counted)
            self.assertEqual(tally(turned_book(book)), counted)
            self.assertTrue(all(many > 0 for many in counted.values()))

    def test_eight_pairs(self):
        row = tuple((pair,) for pair in SQUARE)
        self.assertEqual(picks(row, 8), [dict(enumerate(SQUARE))])
        self.assertEqual(tally(row), {0: 1, 1: 8, 2: 28, 3: 56, 4: 70, 5: 56, 6: 28, 7: 8, 8: 1})

    def test_calls(self):
        for size in (0, 1, 2, 8):
            for function in (picks, picks_many):
                bad = [both(NOT_BOOKS, BadBook), both(NOT_A_SIZE, BadSize)]
                check_calls(self, function, ["book", "size"], (HAND, size), bad)
        check_calls(self, tally, ["book"], (HAND,), [both(NOT_BOOKS, BadBook)])
        first = picks(HAND, 0)
        first[0][0] = (0, 0)
        self.assertEqual(picks(HAND, 0), [{}])


if __name__ == "__main__":
    unittest.main()
