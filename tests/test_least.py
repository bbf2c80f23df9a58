"""Point 43, least.py, and what guarantee (d) says of no other sizes."""

import itertools
import unittest

from pairpicks.bars import bar, is_bar
from pairpicks.books import sizes
from pairpicks.errors import BadNumber, BadSizes, Rises
from pairpicks.least import failing_bar, failing_book
from pairpicks.picks import is_pick, pick_of
from pairpicks.plans import is_book
from pairpicks.rings import are_ring
from pairpicks.rising import deficit, rises, rising_pick
from tests.helper import NOT_RISE_NUMBERS, NOT_SIZES, Dice, both, check_calls, most_pairs

NAMES = ["sizes", "number"]


class Failing(unittest.TestCase):
    def check(self, told, number):
        """Check the book that fails, and its bar; or that there is none."""
        if rises(told, number):
            self.assertRaises(Rises, failing_book, told, number)
            self.assertRaises(BadNumber if number == 1 else Rises, failing_bar, told, number)
            return False
        book = failing_book(told, number)
        self.assertIs(is_book(book), True)
        self.assertEqual(sizes(book), told)
        self.assertIsNone(pick_of(book, number))
        if len(book) <= 4:
            self.assertLess(most_pairs(book), number)
        if number == 1:
            self.assertRaises(BadNumber, failing_bar, told, number)
            return True
        found = failing_bar(told, number)
        self.assertIs(is_bar(book, found), True)
        self.assertIs(are_ring(found[0], found[1]), True)
        self.assertEqual(len(found[0]), number)
        self.assertIsNotNone(bar(book, found[0], found[1]))
        return True

    def test_by_hand(self):
        one, other = ((0, 0), (1, 1)), ((0, 1), (1, 0))
        self.assertEqual(failing_book((2, 2), 2), (one, other))
        self.assertEqual(failing_bar((2, 2), 2), (one, other, one, other))
        self.assertEqual(failing_book((1, 1, 2), 2), (other[:1], other[:1], one))
        self.assertEqual(failing_book((0, 0, 0), 1), ((), (), ()))

    def test_all_small_sizes(self):
        for number in range(1, 5):
            found = set()
            for many in range(1, 6):
                for told in itertools.product(range(number + 1), repeat=many):
                    found.add(self.check(told, number))
            self.assertEqual(found, {True, False} if number < 4 else {True})

    def test_sizes_of_all_kinds(self):
        dice = Dice(250)
        found = set()
        for many in list(range(1, 17)) * 8 + [16] * 120:
            number = dice.number(1, 8)
            least = dice.number(0, number)
            told = tuple(dice.number(least, number) for _ in range(many))
            found.add((many == 16, self.check(told, number)))
        self.assertEqual(found, {(True, True), (True, False), (False, True), (False, False)})

    def test_one_size_less_than_rising(self):
        dice = Dice(251)
        for number in range(1, 9):
            told = dice.order(tuple(range(1, number)) + (number,) * number)
            self.assertIs(self.check(told, number), False)
            for at in range(len(told)):
                self.assertIs(self.check(told[:at] + (told[at] - 1,) + told[at + 1:], number), True)
            for more in (1, 2):
                self.assertIs(self.check((number,) * (2 * number - 2) + (0,) * more, number), True)
            if number > 1:
                self.assertIs(self.check((number,) * (number - 1) + (number - 1,) * (17 - number), number), True)

    def test_so_many_plans_more_and_no_fewer(self):
        dice = Dice(252)
        checked = 0
        for _ in range(300):
            number = dice.number(1, 6)
            told = tuple(dice.number(0, number) for _ in range(dice.number(1, 10)))
            many = deficit(told, number)
            if many == 0 or len(told) + many > 16:
                continue
            checked += 1
            self.assertIs(self.check(told + (number,) * (many - 1), number), True)
            book = dice.book_of(dice.order(told + (number,) * many), dice.number(number, 8))
            pick = rising_pick(book, number)
            self.assertIs(is_pick(book, pick), True)
            self.assertEqual(len(pick), number)
            longer = failing_book(told, number) + dice.book(many, least=number, most=number, among=number)
            self.assertEqual(len(rising_pick(longer, number)), number)
        self.assertGreater(checked, 100)

    def test_calls(self):
        greater = [(2, 3), (0, 8), (8,) * 16]
        rising = [(1, 2, 2), (2,) * 16, (2, 2, 2)]
        bad = [both(NOT_SIZES, BadSizes), both(NOT_RISE_NUMBERS, BadNumber)]
        for function in (failing_book, failing_bar):
            check_calls(self, function, NAMES, ((2, 2), 2), bad)
            check_calls(self, function, NAMES, ((2, 1, 0, 1), 2), bad)
            for told in greater:
                self.assertRaises(BadSizes, function, told, 2)
                self.assertRaises(BadNumber, function, told, 0)
                self.assertRaises(BadNumber, function, told, True)
            for told in rising:
                self.assertRaises(Rises, function, told, 2)
                self.assertRaises(Rises, function, sizes=told, number=2)
            self.assertRaises(BadSizes, function, (1, 1, 1, 9), 2)
            # A size that is greater is refused ahead of sizes that rise.
            self.assertRaises(BadSizes, function, (2, 2, 2, 3), 2)

    def test_number_one(self):
        self.assertEqual(failing_book((0,), 1), ((),))
        self.assertRaises(Rises, failing_book, (0, 1), 1)
        self.assertRaises(BadSizes, failing_book, (0, 2), 1)
        for told in ((0,), (0, 1), (0, 2), (8,) * 16):
            self.assertRaises(BadNumber, failing_bar, told, 1)
        for told in ((9,), (), None, [0]):
            self.assertRaises(BadSizes, failing_bar, told, 1)


if __name__ == "__main__":
    unittest.main()
