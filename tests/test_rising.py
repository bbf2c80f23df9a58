"""Point 41 and guarantee (d), its second part."""

import itertools
import unittest

from pairpicks.books import sizes, sure
from pairpicks.errors import BadBook, BadNumber, BadSizes, NoRise
from pairpicks.picks import is_pick
from pairpicks.rising import deficit, rises, rises_to, rising_pick, short_size
from tests.helper import NOT_BOOKS, NOT_RISE_NUMBERS, NOT_SIZES, Dice, both, check_calls

NAMES = ["sizes", "number"]


def counted(told, least):
    """How many of the sizes are least or more."""
    return len([size for size in told if size >= least])


def rises_by_words(told, number):
    """Whether the sizes rise to the number, as the words tell it."""
    return all(counted(told, s) >= 2 * number - s for s in range(1, number + 1))


class Sizes(unittest.TestCase):
    def check(self, told, number):
        """Check all that is told of these sizes and this number."""
        rise = rises_by_words(told, number)
        self.assertIs(rises(told, number), rise)
        short = [s for s in range(1, number + 1) if counted(told, s) < 2 * number - s]
        self.assertEqual(short_size(told, number), short[0] if short else None)
        if max(told) > number:
            self.assertRaises(BadSizes, deficit, told, number)
            return
        many = 0
        while not rises_by_words(told + (number,) * many, number):
            many += 1
        self.assertEqual(deficit(told, number), many)
        self.assertEqual(many, max([0] + [2 * number - s - counted(told, s) for s in range(1, number + 1)]))
        self.assertIs(many == 0, rise)

    def check_rises_to(self, told):
        """Check the greatest number to which the sizes rise."""
        due = max([0] + [number for number in range(1, 9) if rises_by_words(told, number)])
        self.assertEqual(rises_to(told), due)
        self.assertEqual([rises(told, number) for number in range(1, 9)], [number <= due for number in range(1, 9)])

    def test_by_hand(self):
        self.assertIs(rises((1, 2, 3, 3, 3), 3), True)
        self.assertIs(rises((1, 1, 3, 3, 3), 3), False)
        self.assertEqual(short_size((1, 1, 3, 3, 3), 3), 2)
        self.assertIsNone(short_size((1, 2, 3, 3, 3), 3))
        self.assertEqual(deficit((1, 1, 3, 3, 3), 3), 1)
        self.assertEqual(deficit((1, 2, 3, 3, 3), 3), 0)
        self.assertEqual([rises_to((1, 2, 3, 3, 3)), rises_to((1, 1, 3, 3, 3))], [3, 2])

    def test_all_small_sizes(self):
        for many in range(1, 6):
            for told in itertools.product(range(5), repeat=many):
                self.check_rises_to(told)
                for number in (1, 2, 3, 4, 5, 8):
                    self.check(told, number)

    def test_sizes_of_all_kinds(self):
        dice = Dice(220)
        for many in list(range(1, 17)) * 20:
            least = dice.number(0, 8)
            told = tuple(dice.number(least, 8) for _ in range(many))
            self.check_rises_to(told)
            for number in range(1, 9):
                self.check(told, number)

    def test_edges(self):
        for number in range(1, 9):
            told = tuple(range(1, number)) + (number,) * number
            self.assertEqual((len(told), rises_to(told)), (2 * number - 1, number))
            self.assertIs(rises(told[::-1], number), True)
            for at in range(len(told)):
                less = told[:at] + (told[at] - 1,) + told[at + 1:]
                self.assertIs(rises(less, number), False)
                self.assertEqual(short_size(less, number), told[at])
                self.assertEqual(deficit(less, number), 1)
            self.assertEqual(deficit((0,), number), 2 * number - 1)
            self.assertEqual(short_size((0,) * 16, number), 1)
        self.assertEqual([rises_to((0,)), rises_to((8,)), rises_to((8,) * 16), rises_to((0,) * 16)], [0, 1, 8, 0])
        self.assertEqual([deficit((8,) * 16, 8), deficit((8,), 8), deficit((1,), 1)], [0, 14, 0])
        self.assertIs(rises((8,) * 16, 1), True)

    def test_calls(self):
        bad = [both(NOT_SIZES, BadSizes), both(NOT_RISE_NUMBERS, BadNumber)]
        for told, number in (((1, 2, 3, 3, 3), 3), ((0,), 8), ((1,) * 16, 1), ((8, 0), 8)):
            for function in (rises, short_size, deficit):
                check_calls(self, function, NAMES, (told, number), bad)
            check_calls(self, rises_to, ["sizes"], (told,), bad[:1])

    def test_sizes_greater_than_the_number(self):
        for told, number in (((2,), 1), ((0, 4, 1), 3), ((8,) * 16, 7)):
            self.assertRaises(BadSizes, deficit, told, number)
            self.assertRaises(BadSizes, deficit, sizes=told, number=number)
            self.assertIs(rises(told, number), rises_by_words(told, number))
        # The number is refused ahead of a size that is greater, and behind what are no sizes at all.
        for number in (0, 9, None, True, "1", -1):
            self.assertRaises(BadNumber, deficit, (2,), number)
            self.assertRaises(BadSizes, deficit, (9,), number)


class RisingPick(unittest.TestCase):
    def check(self, book, number):
        """Check the pick of a book whose sizes rise to the number."""
        pick = rising_pick(book, number)
        self.assertIs(is_pick(book, pick), True)
        self.assertEqual((len(pick), list(pick)), (number, sorted(pick)))

    def test_guarantee_d(self):
        dice = Dice(221)
        for number in list(range(1, 9)) * 20:
            told = tuple(range(1, number)) + (number,) * number
            for among in (number, dice.number(number, 8)):
                self.check(dice.book_of(dice.order(told), among), number)

    def test_books_of_few_unlike_plans(self):
        dice = Dice(222)
        for number in list(range(2, 9)) * 12:
            rings = [tuple((k, (k + turn) % number) for k in range(number)) for turn in range(number)]
            chosen = [dice.order(rings)[0] for _ in range(2)]
            plans = []
            for size in dice.order(tuple(range(1, number)) + (number,) * number):
                plan = chosen[dice.number(0, 1)]
                plans.append(plan if size == number else tuple(sorted(dice.part(plan, size))))
            self.check(tuple(plans), number)

    def test_any_book(self):
        dice = Dice(223)
        for many in list(range(1, 17)) * 12:
            book = dice.book(many, most=dice.number(1, 8))
            most = rises_to(sizes(book))
            self.assertGreaterEqual(most, sure(book))
            for number in range(1, 9):
                if number <= most:
                    self.check(book, number)
                else:
                    self.assertRaises(NoRise, rising_pick, book, number)

    def test_equal_plans(self):
        for number in range(1, 9):
            plan = tuple((k, k) for k in range(number))
            self.check((plan,) * (2 * number - 1), number)
            self.assertRaises(NoRise, rising_pick, (plan,) * (2 * number - 2) + ((),), number)
            self.check(tuple(plan[:size] for size in range(1, number)) + (plan,) * number, number)

    def test_calls(self):
        book = (((0, 0), (1, 1)), ((0, 1),), ((0, 1), (1, 0)))
        bad = [both(NOT_BOOKS, BadBook), both(NOT_RISE_NUMBERS, BadNumber) + both([3, 4, 8], NoRise)]
        for number in (1, 2):
            check_calls(self, rising_pick, ["book", "number"], (book, number), bad)
        self.assertRaises(NoRise, rising_pick, ((),) * 16, 1)


if __name__ == "__main__":
    unittest.main()
