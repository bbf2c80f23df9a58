"""Point 43, bars.py."""

import itertools
import unittest

from pairpicks.bars import bar, is_bar, is_within
from pairpicks.errors import BadBook, BadPlan, NoRing, NotWithin
from pairpicks.picks import pick_of
from pairpicks.rings import are_ring, ring_of
from tests.helper import NOT_BOOKS, NOT_PLANS, Dice, both, check_calls, most_pairs, nested, variants

ONE, OTHER = ((0, 0), (1, 1)), ((0, 1), (1, 0))
NAMES = ["book", "one", "other"]
NO_RINGS = [(ONE, ONE), (ONE, ((0, 1), (1, 2))), (ONE, ()), ((), ONE), ((), ()), (ONE, ((0, 1),)),
            (((0, 0),), ((0, 0),)), (ONE + ((2, 2), (3, 3)), OTHER + ((2, 3), (3, 2))), (ONE + ((2, 2),), OTHER),
            (ONE, ((2, 2), (3, 3)))]


def having(book, lot):
    """How many plans of the book have a pair of the lot."""
    return sum(any(pair in plan for pair in lot) for plan in book)


def is_short_by_words(book, side, lot):
    """Whether the lot is some pairs of the side, of which fewer plans have one."""
    return lot != () and set(lot) <= set(side) and list(lot) == sorted(set(lot)) and having(book, lot) < len(lot)


def is_bar_by_words(book, one, other, lot, more):
    """Whether these four are a bar, one and other being plans."""
    within = all(set(plan) <= set(one) or set(plan) <= set(other) for plan in book)
    short = is_short_by_words(book, one, lot) and is_short_by_words(book, other, more)
    return are_ring(one, other) and within and short


class Within(unittest.TestCase):
    def test_is_within(self):
        for book, due in ((((),), True), ((ONE, OTHER, (), ONE[:1], OTHER[1:]), True), ((ONE, ((2, 2),)), False),
                          ((ONE[:1] + ((2, 2),),), False), ((((1, 1), (2, 0)),), False), ((OTHER, ONE, ONE), True)):
            self.assertIs(is_within(book, ONE, OTHER), due)
        # A plan with pairs of both lies within neither.
        one, other = ring_of((0, 1, 2), (0, 1, 2))
        self.assertIs(is_within((((0, 0), (1, 2)),), one, other), False)
        self.assertIs(is_within((((0, 0), (1, 1)), ((1, 2), (2, 0))), one, other), True)
        self.assertIs(is_within(((), ()), (), ()), True)
        self.assertIs(is_within((((0, 0),),), (), ((0, 0), (5, 5))), True)
        self.assertIs(is_within((((0, 0),),), (), ()), False)

    def test_against_the_words(self):
        dice = Dice(240)
        found = set()
        for _ in range(400):
            among = dice.number(1, 4)
            one, other = [dice.plan(dice.number(0, among), among) for _ in range(2)]
            book = dice.book(dice.number(1, 4), most=min(2, among), among=among)
            due = all(set(plan) <= set(one) or set(plan) <= set(other) for plan in book)
            self.assertIs(is_within(book, one, other), due)
            found.add(due)
        self.assertEqual(found, {True, False})


class Bars(unittest.TestCase):
    def check(self, book, one, other):
        """Check that the book has a bar, or a pick of all persons, never both."""
        found = bar(book, one, other)
        if len(book) <= 5:
            self.assertIs(found is None, most_pairs(book) == len(one))
        self.assertIs(found is None, pick_of(book, len(one)) is not None)
        if found is not None:
            self.assertEqual(found[:2], (one, other))
            self.assertIs(is_bar_by_words(book, *found), True)
            self.assertIs(is_bar(book, found), True)
        return found is None

    def test_by_hand(self):
        self.assertEqual(bar((ONE, OTHER), ONE, OTHER), (ONE, OTHER, ONE, OTHER))
        self.assertIsNone(bar((ONE, ONE), ONE, OTHER))
        self.assertIsNone(bar((OTHER, ONE, OTHER), ONE, OTHER))

    def test_all_books_within_a_ring_of_two(self):
        parts = [()] + [plan[at:at + size] for plan in (ONE, OTHER) for at, size in ((0, 1), (1, 1), (0, 2))]
        for many in (1, 2, 3, 4):
            for book in itertools.product(parts, repeat=many):
                self.check(book, ONE, OTHER)
                self.check(book, OTHER, ONE)

    def test_books_within_rings_of_two_to_five(self):
        dice = Dice(241)
        found = set()
        for _ in range(500):
            k = dice.number(2, 5)
            one, other = ring_of(dice.part(range(8), k), dice.part(range(8), k))
            book = tuple(tuple(sorted(dice.part(one if dice.number(0, 2) else other, dice.number(max(0, k - 3), k))))
                         for _ in range(dice.number(1, 9)))
            found.add((k, self.check(book, one, other)))
        self.assertEqual(found, {(k, due) for k in range(2, 6) for due in (True, False)})

    def test_not_within(self):
        one, other = ring_of((0, 1, 2), (0, 1, 2))
        both_kinds = ((0, 0), (1, 2))
        for book, number in (((both_kinds,), 0), ((one, (), other, both_kinds, both_kinds), 3), ((one, ((5, 5),)), 1),
                             ((one[:1], other[1:], one, other, one[1:] + ((3, 3),), both_kinds), 4)):
            for way in (lambda: bar(book, one, other), lambda: bar(book=book, one=one, other=other)):
                with self.assertRaises(NotWithin) as caught:
                    way()
                self.assertEqual(caught.exception.number, number)
            self.assertIs(is_bar(book, (one, other, one, other)), False)

    def test_no_ring_comes_ahead_of_not_within(self):
        for one, other in NO_RINGS:
            for book in (((),), (one,), (((7, 7),),), (ONE, OTHER)):
                self.assertRaises(NoRing, bar, book, one, other)
                self.assertIs(is_bar(book, (one, other, one, other)), False)

    def test_is_bar_of_all_lots(self):
        one, other = ring_of((2, 0, 1), (1, 0, 2))
        dice = Dice(242)
        for _ in range(12):
            book = tuple(tuple(sorted(dice.part(dice.order((one, other))[0], dice.number(0, 3)))) for _ in range(3))
            lots = [lot for side in (one, other) for size in range(4) for lot in itertools.combinations(side, size)]
            for lot, more in itertools.product(lots, repeat=2):
                for two in ((one, other), (other, one)):
                    self.assertIs(is_bar(book, (*two, lot, more)), is_bar_by_words(book, *two, lot, more))

    def test_is_bar_of_any_value(self):
        book = (ONE, OTHER)
        right = (ONE, OTHER, ONE, OTHER)
        self.assertIs(is_bar(book, right), True)
        self.assertIs(is_bar(book, (OTHER, ONE, OTHER, ONE)), True)
        wrong = [(), right[:3], right + (ONE,), (ONE, OTHER, OTHER, ONE), (ONE, OTHER, ONE[:1], OTHER), {0: right},
                 (ONE, OTHER, ONE, ()), (ONE, OTHER, (), OTHER), (ONE, OTHER, ONE[::-1], OTHER), (ONE, ONE, ONE, ONE),
                 (ONE, OTHER, None, None), (nested("tuple"),) * 4, (nested("list"),) * 4, (nested("dict"),) * 4]
        for thing in wrong + variants(right):
            with self.subTest(thing=thing):
                self.assertIs(is_bar(book, thing), False)

    def test_calls(self):
        bad = [both(NOT_BOOKS, BadBook), both(NOT_PLANS, BadPlan), both(NOT_PLANS, BadPlan)]
        for book in ((ONE, OTHER), (ONE, ONE), (ONE[:1], ())):
            for function in (is_within, bar):
                check_calls(self, function, NAMES, (book, ONE, OTHER), bad)
            check_calls(self, is_bar, ["book", "thing"], (book, (ONE, OTHER, ONE, OTHER)), bad[:1])
            check_calls(self, is_bar, ["book", "thing"], (book, None), bad[:1])
        self.assertRaises(BadPlan, bar, (((5, 5),),), ONE, None)
        self.assertRaises(BadPlan, bar, (((5, 5),),), None, ONE)


if __name__ == "__main__":
    unittest.main()
