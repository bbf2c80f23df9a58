"""Point 63."""

import itertools
import unittest

from pairpicks.errors import BadBook, BadDials, BadMoves, BadPick, BadTable, NoTable, TooMany
from pairpicks.lone import is_lone
from pairpicks.moves import move_book, places
from pairpicks.picks import is_pick
from pairpicks.plans import is_book
from pairpicks.tables import book_table, cut, cut_by, is_cut, is_table, moves_table, table_book
from tests.helper import ALL_DIALS, NOT_BOOKS, NOT_DIALS, NOT_TABLES, ODD, Dice, all_picks, both, check_calls, nested
from tests.helper import not_moves, not_picks_of, variants
from tests.test_moves import added

HAND = ((0, 1), (1, 0))
LONGER = HAND + ((0, 2),)
EIGHT = tuple(range(8))


def cuts_by_words(table):
    """All cross-cuts of a table, by going through all rows and columns."""
    n = len(table[0])
    found = []
    for rows in itertools.combinations(range(len(table)), n):
        for columns in itertools.permutations(range(n)):
            if len({table[row][column] for row, column in zip(rows, columns)}) == n:
                found.append(dict(zip(rows, columns)))
    return found


def moved_on(row, by):
    """The row with each sign at another place."""
    return row[by:] + row[:by]


def ring_table(row, by, numbers):
    """A table of 2 * n - 2 rows of two kinds, n - 1 times each, one of them at these numbers."""
    half = len(row) - 1
    return tuple([row if number in numbers else moved_on(row, by) for number in range(2 * half)])


class Tables(unittest.TestCase):
    def check_cut(self, table):
        """Check that there is a cross-cut, and what it is; return it."""
        found = cut(table)
        self.assertIs(is_cut(table, found), True)
        n = len(table[0])
        self.assertEqual([len(found), len(set(found.values()))], [n, n])
        self.assertEqual(len({table[row][found[row]] for row in found}), n)
        self.assertEqual(list(found), sorted(found))
        pick = {row: (found[row], table[row][found[row]]) for row in sorted(found, reverse=True)}
        self.assertEqual(cut_by(table, pick), found)
        self.assertEqual(list(cut_by(table, pick)), sorted(found))
        return found

    def test_by_hand(self):
        self.assertIsNone(cut(HAND))
        self.assertEqual(cuts_by_words(LONGER), [{0: 0, 2: 1}, {0: 1, 2: 0}, {1: 0, 2: 1}])
        self.assertIn(self.check_cut(LONGER), cuts_by_words(LONGER))
        self.assertIs(is_cut(LONGER, {0: 0, 2: 1}), True)
        self.assertIs(is_cut(LONGER, {0: 0, 1: 1}), False)
        self.assertIs(is_cut(LONGER, {0: 0, 2: 0}), False)
        self.assertEqual(table_book(HAND), (((0, 0), (1, 1)), ((0, 1), (1, 0))))
        self.assertEqual(moves_table((3,), ((0,), (1,), (2,))), ((0, 1, 2), (1, 2, 0), (2, 0, 1)))

    def test_there_and_back(self):
        dice = Dice(360)
        for size in range(1, 9):
            for many in range(1, 17):
                table = dice.table(many, size)
                self.assertIs(is_table(table), True)
                book = table_book(table)
                self.assertIs(is_book(book), True)
                due = tuple(tuple((column, sign) for column, sign in enumerate(row)) for row in table)
                self.assertEqual(book, due)
                self.assertEqual(book_table(book), table)

    def test_books_of_no_table(self):
        plain = ((0, 1), (1, 0), (2, 5))
        for book in ((plain, plain[:2]), (plain[:2], plain), (((0, 1), (2, 0)),), (((1, 0),),), ((),), ((), ()),
                     (plain, ()), ((), plain), (plain, ((0, 1), (1, 0), (3, 5))), (plain, plain[1:]),
                     (((0, 0),), ((1, 0),)), (((0, 0), (7, 1)),)):
            self.assertIs(is_book(book), True)
            self.assertRaises(NoTable, book_table, book)
        self.assertEqual(book_table((plain, plain)), ((1, 0, 5), (1, 0, 5)))
        dice = Dice(361)
        told = 0
        for _ in range(400):
            book = dice.book(dice.number(1, 3), least=1, most=2, among=3)
            rows = [[person for person, desk in plan] for plan in book]
            if all(row == list(range(len(book[0]))) for row in rows):
                self.assertEqual(table_book(book_table(book)), book)
                told += 1
            else:
                self.assertRaises(NoTable, book_table, book)
        self.assertGreater(told, 20)

    def test_small_tables(self):
        dice = Dice(362)
        found = set()
        for n in (1, 2, 3, 4):
            for many in range(1, 7):
                for _ in range(25):
                    table = dice.table(many, n, dice.number(n, min(n + 2, 8)))
                    due = cuts_by_words(table)
                    if due:
                        self.assertIn(self.check_cut(table), due)
                    else:
                        self.assertIsNone(cut(table))
                    found.add((n, many < n, due == []))
                    for other in due[:4] + due[-4:]:
                        self.assertIs(is_cut(table, other), True)
                        self.assertIs(is_cut(table, {row: other[row] for row in sorted(other)[::-1]}), True)
        self.assertLessEqual({(n, False, none) for n in (2, 3, 4) for none in (True, False)}, found)

    def test_enough_rows(self):
        dice = Dice(363)
        for n in range(1, 9):
            for many in (2 * n - 1, 2 * n, 16):
                for signs in range(n, 9):
                    for _ in range(3):
                        self.check_cut(dice.table(min(many, 16), n, signs))
        for n in (7, 8):
            row = EIGHT[:n]
            for by in range(1, n):
                half = ring_table(row, by, tuple(range(n - 1)))
                self.check_cut(half + (row,))
                self.check_cut((moved_on(row, by),) + half)
                self.check_cut(half + (row[1::-1] + row[2:],))

    def test_one_row_fewer(self):
        dice = Dice(364)
        found = set()
        for n in range(2, 7):
            tables = [dice.table(2 * n - 2, n, signs) for signs in range(n, 9) for _ in range(6)]
            for by in range(1, n):
                numbers = dice.part(range(2 * n - 2), n - 1)
                tables += [ring_table(EIGHT[1:n + 1], by, numbers), ring_table(EIGHT[:n], by, numbers[1:])]
            for table in tables:
                lone = is_lone(table_book(table))
                if lone:
                    self.assertIsNone(cut(table))
                else:
                    self.check_cut(table)
                found.add((n, lone))
        self.assertEqual(found, {(n, lone) for n in range(2, 7) for lone in (True, False)})

    def test_too_many(self):
        dice = Dice(365)
        for n in (7, 8):
            for many in range(1, 2 * n - 1):
                with self.assertRaises(TooMany) as caught:
                    cut(dice.table(many, n))
                self.assertEqual(caught.exception.most, 6)
            wrong = (EIGHT[:n], EIGHT[:n - 1])
            self.assertRaises(BadTable, cut, wrong)
            self.check_cut(dice.table(2 * n - 1, n))
        for many in (1, 5, 6, 10, 16):
            found = cut(dice.table(many, 6))
            self.assertTrue(found is None or many >= 6)

    def test_tables_of_moves(self):
        dice = Dice(366)
        for dials in ALL_DIALS:
            rows = places(dials)
            for many in (1, 5, 16):
                moves = dice.moves(dials, many)
                table = moves_table(dials, moves)
                self.assertEqual(table_book(table), move_book(dials, moves))
                self.assertEqual(book_table(move_book(dials, moves)), table)
            table = moves_table(dials, tuple(rows))
            self.assertEqual(table, tuple(tuple(rows.index(added(dials, place, move)) for place in rows)
                                          for move in rows))
            twice = [move for move in rows[1:] if not any(added(dials, move, move))]
            if len(rows) < 7:
                self.assertIs(cut(table) is not None, len(twice) != 1)

    def test_is_table_of_any_value(self):
        for table in (((0,),), ((7,),) * 16, (EIGHT,) * 16, HAND, LONGER, ((3, 5, 1),)):
            self.assertIs(is_table(table), True)
        for thing in NOT_TABLES + [table_book(LONGER), ((), (0, 1)), (LONGER, HAND)]:
            with self.subTest(thing=thing):
                self.assertIs(is_table(thing), False)
        good = ((0, 1, 5), (5, 3, 0))
        for thing in variants(good):
            if thing != ((0,),):
                self.assertIs(is_table(thing), False)

    def test_is_cut_of_any_value(self):
        for good in ({0: 0, 2: 1}, {2: 1, 0: 0}):
            self.assertIs(is_cut(LONGER, good), True)
            for thing in variants(good):
                with self.subTest(thing=thing):
                    self.assertIs(is_cut(LONGER, thing), False)
        for thing in ODD + [{}, {0: 0}, {0: 0, 1: 1, 2: 1}, {0: 0, 3: 1}, {-1: 1, 0: 0}, {0: 0, 2: 2}, {0: 0, 2: -1},
                            {False: 0, 2: 1}, {0: False, 2: 1}, {0: 0, 2: True}, {0: 1, 2: 1}, {1: 1, 2: 0},
                            [(0, 0), (2, 1)], ((0, 0), (2, 1)), {0: nested("tuple"), 2: 1}, {0: 0, 2: nested("list")},
                            {0: (0,), 2: 1}, {nested("tuple"): 0, 2: 1}]:
            self.assertIs(is_cut(LONGER, thing), False)

    def test_picks_that_are_too_small(self):
        book = table_book(LONGER)
        for pick in all_picks(book):
            self.assertIs(is_pick(book, pick), True)
            if len(pick) == 2:
                self.assertEqual(cut_by(LONGER, pick), {row: pick[row][0] for row in sorted(pick)})
            else:
                self.assertRaises(BadPick, cut_by, LONGER, pick)

    def test_calls(self):
        bad = [both(NOT_TABLES, BadTable)]
        check_calls(self, table_book, ["table"], (LONGER,), bad)
        check_calls(self, cut, ["table"], (LONGER,), bad)
        check_calls(self, cut, ["table"], (HAND,), bad)
        check_calls(self, is_cut, ["table", "thing"], (LONGER, {0: 0, 2: 1}), bad)
        check_calls(self, is_cut, ["table", "thing"], (LONGER, None), bad)
        picks = both(not_picks_of(table_book(LONGER)) + [{}, {0: (0, 0)}], BadPick)
        check_calls(self, cut_by, ["table", "pick"], (LONGER, {2: (1, 2), 0: (0, 0)}), bad + [picks])
        check_calls(self, book_table, ["book"], (table_book(LONGER),), [both(NOT_BOOKS, BadBook)])
        check_calls(self, is_table, ["thing"], (LONGER,), [])
        for dials in ALL_DIALS:
            rows = [both(NOT_DIALS, BadDials), both(not_moves(dials), BadMoves)]
            check_calls(self, moves_table, ["dials", "moves"], (dials, tuple(places(dials))), rows)


if __name__ == "__main__":
    unittest.main()
