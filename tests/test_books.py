"""Point 11."""

import unittest

from pairpicks.books import joined, kept, rearranged, renamed, sizes, sure, times, turned_book
from pairpicks.errors import BadBook, BadNumbers, BadOrder, TooMany
from pairpicks.plans import is_book, turned
from tests.helper import NOT_BOOKS, Dice, both, check_calls, not_ascending, not_orders

HAND = (((0, 0), (1, 1)), ((0, 1), (1, 0)), ((0, 0),))
SAME = tuple(range(8))


def square(size):
    return tuple((k, k) for k in range(size))


class Told(unittest.TestCase):
    def test_by_hand(self):
        self.assertEqual(sizes(HAND), (2, 2, 1))
        self.assertEqual(list(times(HAND).items()), [((0, 0), 2), ((0, 1), 1), ((1, 0), 1), ((1, 1), 1)])
        self.assertEqual(sure(HAND), 1)

    def test_sizes(self):
        self.assertEqual(sizes(((),)), (0,))
        self.assertEqual(sizes(tuple(square(k % 9) for k in range(16))), tuple(k % 9 for k in range(16)))

    def test_times(self):
        self.assertEqual(times(((), ())), {})
        self.assertEqual(times((square(8),) * 16), {(k, k): 16 for k in range(8)})
        dice = Dice(20)
        for many in range(1, 17):
            book = dice.book(many)
            told = times(book)
            self.assertEqual(list(told), sorted(told))
            for pair in {pair for plan in book for pair in plan} | set(told):
                self.assertEqual(told[pair], sum(pair in plan for plan in book))

    def test_times_are_new(self):
        first = times(HAND)
        first[(0, 0)] = 9
        self.assertEqual(times(HAND)[(0, 0)], 2)

    def test_sure_at_its_edges(self):
        self.assertEqual(sure(((), (), ())), 0)
        self.assertEqual(sure(((),)), 0)
        for k in range(1, 9):
            enough = (square(k),) * (2 * k - 1)
            self.assertEqual(sure(enough), k)
            self.assertEqual(sure(enough + ((),)), k)
            if k > 1:
                self.assertEqual(sure(enough[1:]), k - 1)
                self.assertEqual(sure(enough[1:] + ((),)), k - 1)
                self.assertEqual(sure((square(k - 1),) + enough[1:]), k - 1)
        self.assertEqual(sure((square(8),)), 1)
        self.assertEqual(sure((square(8),) * 16), 8)

    def test_sure_by_counting(self):
        dice = Dice(21)
        for many in list(range(1, 17)) * 5:
            book = dice.book(many)
            due = [k for k in range(1, 9) if sum(len(plan) >= k for plan in book) >= 2 * k - 1]
            self.assertEqual(sure(book), max(due, default=0))

    def test_calls(self):
        for function in (sizes, times, turned_book, sure):
            check_calls(self, function, ["book"], (HAND,), [both(NOT_BOOKS, BadBook)])


class Made(unittest.TestCase):
    def test_kept(self):
        self.assertEqual(kept(HAND, (0, 2)), (HAND[0], HAND[2]))
        self.assertEqual(kept(HAND, (1,)), (HAND[1],))
        self.assertEqual(kept(HAND, (0, 1, 2)), HAND)
        bad = not_ascending(3) + [(), (3,), (0, 1, 2, 3), (2, 1)]
        check_calls(self, kept, ["book", "numbers"], (HAND, (0, 2)), [both(NOT_BOOKS, BadBook), both(bad, BadNumbers)])

    def test_joined(self):
        self.assertEqual(joined(HAND, (((3, 4),),)), HAND + (((3, 4),),))
        self.assertEqual(joined((((3, 4),),), HAND), (((3, 4),),) + HAND)
        self.assertEqual(joined(HAND, HAND), HAND + HAND)
        check_calls(self, joined, ["one", "other"], (HAND, ((),)), [both(NOT_BOOKS, BadBook)] * 2)

    def test_joined_too_many(self):
        for many in range(1, 17):
            one, other = ((),) * many, (((1, 2),),) * (16 - many)
            if other:
                self.assertEqual(joined(one, other), one + other)
            with self.assertRaises(TooMany) as caught:
                joined(one, other + ((),))
            self.assertEqual(caught.exception.most, 16)
        for wrong in (None, ((),) * 17, [()] * 16):
            self.assertRaises(BadBook, joined, ((),) * 16, wrong)
            self.assertRaises(BadBook, joined, wrong, ((),) * 16)

    def test_rearranged(self):
        self.assertEqual(rearranged(HAND, (2, 0, 1)), (HAND[2], HAND[0], HAND[1]))
        self.assertEqual(rearranged(HAND, (0, 1, 2)), HAND)
        self.assertEqual(rearranged(((),), (0,)), ((),))
        dice = Dice(22)
        for many in range(1, 17):
            book, order = dice.book(many), dice.order(range(many))
            made = rearranged(book, order)
            self.assertEqual([made[k] for k in range(many)], [book[order[k]] for k in range(many)])
        bad = [both(NOT_BOOKS, BadBook), both(not_orders(range(3)), BadOrder)]
        check_calls(self, rearranged, ["book", "order"], (HAND, (2, 0, 1)), bad)

    def test_renamed(self):
        persons, desks = (3, 0, 1, 2, 4, 5, 7, 6), (1, 7, 0, 2, 3, 4, 5, 6)
        self.assertEqual(renamed(HAND, persons, desks), (((0, 7), (3, 1)), ((0, 1), (3, 7)), ((3, 1),)))
        self.assertEqual(renamed(HAND, SAME, SAME), HAND)
        dice = Dice(23)
        for many in range(1, 17):
            book, persons, desks = dice.book(many), dice.order(SAME), dice.order(SAME)
            made = renamed(book, persons, desks)
            self.assertIs(is_book(made), True)
            for plan, new in zip(book, made):
                self.assertEqual(set(new), {(persons[person], desks[desk]) for person, desk in plan})
        wrong = both(not_orders(SAME) + [SAME[:7], SAME + (8,), tuple(range(1, 9))], BadOrder)
        good = (HAND, (3, 0, 1, 2, 4, 5, 7, 6), (1, 7, 0, 2, 3, 4, 5, 6))
        check_calls(self, renamed, ["book", "persons", "desks"], good, [both(NOT_BOOKS, BadBook), wrong, wrong])

    def test_turned_book(self):
        book = (((0, 2), (1, 0)), (), ((5, 7),))
        self.assertEqual(turned_book(book), (((0, 1), (2, 0)), (), ((7, 5),)))
        dice = Dice(24)
        for many in range(1, 17):
            book = dice.book(many)
            self.assertEqual(turned_book(book), tuple(turned(plan) for plan in book))
            self.assertEqual(turned_book(turned_book(book)), book)


if __name__ == "__main__":
    unittest.main()
