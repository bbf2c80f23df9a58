"""Point 22 and guarantee (a)."""

import itertools
import unittest

from pairpicks.books import sure
from pairpicks.chains import ends, grown
from pairpicks.errors import BadBook, BadOrders, BadPick
from pairpicks.growing import grow, grow_by
from pairpicks.picks import is_pick, unused
from tests.helper import NOT_BOOKS, ODD, Dice, both, check_calls, not_orders, not_picks_of

HAND = (((0, 0), (1, 1)), ((0, 0), (1, 1)), ((0, 1), (1, 0)))


class Grow(unittest.TestCase):
    def test_by_hand(self):
        self.assertEqual(grow(HAND, {}), [{}, {0: (0, 0)}, {0: (0, 0), 1: (1, 1)}])
        self.assertEqual(sure(HAND), 2)
        self.assertEqual(grow(HAND, {2: (1, 0)}), [{2: (1, 0)}, {0: (0, 0), 1: (1, 1)}])
        self.assertEqual(grow(HAND, {1: (1, 1), 0: (0, 0)}), [{0: (0, 0), 1: (1, 1)}])

    def test_each_is_grown_of_the_one_before(self):
        dice = Dice(60)
        for many in list(range(1, 17)) * 8:
            book = dice.book(many)
            pick = dice.pick(book)
            picks = grow(book, pick)
            self.assertEqual(picks[0], pick)
            self.assertIsNot(picks[0], pick)
            for one in picks:
                self.assertEqual(list(one), sorted(one))
            for one, more in zip(picks, picks[1:]):
                self.assertEqual(more, grown(book, one, unused(book, one)))
            self.assertIs(ends(book, picks[-1], unused(book, picks[-1])), False)
            self.assertGreaterEqual(len(picks[-1]), sure(book))

    def test_guarantee_a(self):
        dice = Dice(61)
        for k in list(range(1, 9)) * 12:
            among = dice.number(k, 8)
            book = dice.book(2 * k - 1, least=k, most=k, among=among)
            for pick in ({}, dice.pick(book, most=k), dice.pick(book, most=1)):
                last = grow(book, pick)[-1]
                self.assertIs(is_pick(book, last), True)
                self.assertGreaterEqual(len(last), k)
            orders = [dice.order(range(2 * k - 1)) for _ in range(k)]
            self.assertEqual(len(grow_by(book, {}, orders)[-1]), k)

    def test_guarantee_a_for_all_small_books(self):
        plans = [((0, a), (1, b)) for a, b in itertools.permutations(range(3), 2)]
        for book in itertools.product(plans, repeat=3):
            self.assertGreaterEqual(len(grow(book, {})[-1]), 2)

    def test_calls(self):
        bad = [both(NOT_BOOKS, BadBook), both(not_picks_of(HAND), BadPick)]
        check_calls(self, grow, ["book", "pick"], (HAND, {0: (0, 0)}), bad)


class GrowBy(unittest.TestCase):
    def test_by_hand(self):
        self.assertEqual(grow_by(HAND, {}, []), [{}])
        self.assertEqual(grow_by(HAND, {}, [(2, 0, 1)]), [{}, {2: (0, 1)}])
        self.assertEqual(grow_by(HAND, {}, [(2, 0, 1), (1, 2, 0)])[2], {0: (0, 0), 1: (1, 1)})
        self.assertEqual(grow_by(HAND, {}, [(2, 1, 0), (0, 2, 1), (0, 1, 2), (2, 1, 0)])[2:], [{0: (1, 1), 1: (0, 0)}])
        pick = {1: (1, 1)}
        self.assertEqual(grow_by(HAND, pick, []), [pick])
        self.assertIsNot(grow_by(HAND, pick, [])[0], pick)

    def test_step_by_step(self):
        dice = Dice(62)
        lengths = set()
        for many in list(range(1, 17)) * 8:
            book = dice.book(many)
            pick = dice.pick(book, most=2)
            orders = [dice.order(range(many)) for _ in range(dice.number(0, 9))]
            due = [{number: pick[number] for number in sorted(pick)}]
            for order in orders:
                left = tuple(number for number in order if number not in due[-1])
                if not ends(book, due[-1], left):
                    break
                due.append(grown(book, due[-1], left))
            told = grow_by(book, pick, orders)
            self.assertEqual([list(one.items()) for one in told], [list(one.items()) for one in due])
            self.assertEqual(told, grow_by(book, pick, tuple(orders)))
            lengths.add((len(orders) > len(told) - 1, len(orders) == 0))
        self.assertEqual(lengths, {(True, False), (False, False), (False, True)})

    def test_ascending_orders_are_grow(self):
        dice = Dice(63)
        for many in range(1, 17):
            book = dice.book(many)
            pick = dice.pick(book, most=3)
            self.assertEqual(grow_by(book, pick, [tuple(range(many))] * 9), grow(book, pick))

    def test_it_stops_where_a_chain_does_not_end(self):
        book = (((0, 0),), ((1, 1),), ((2, 0),), ((0, 1),), ((1, 2), (3, 0)))
        pick = {0: (0, 0), 1: (1, 1)}
        self.assertEqual(grow_by(book, pick, [(0, 1, 3, 2, 4), (0, 1, 2, 3, 4)]), [pick])
        self.assertEqual(len(grow_by(book, pick, [(0, 1, 2, 3, 4), (0, 1, 3, 2, 4)])), 2)

    def test_calls(self):
        orders = [thing for thing in ODD if thing != []] + [
            {}, 0, 3, (0, 1, 2), [0, 1, 2], [[0, 1, 2]], [(0, 1, 2), [0, 1, 2]], [(0, 1)], [(0, 1, 2), (0, 1, 1)],
            [(0, 1, 2, 3)], [(1, 2, 3)], [(0, 1, 2), None], [(False, 1, 2)], [(0, True, 2)], [()], "", {(0, 1, 2): 1},
        ] + [[wrong] for wrong in not_orders(range(3))] + [((0, 1, 2), wrong) for wrong in not_orders(range(3))]
        bad = [both(NOT_BOOKS, BadBook), both(not_picks_of(HAND), BadPick), both(orders, BadOrders)]
        names = ["book", "pick", "orders"]
        check_calls(self, grow_by, names, (HAND, {0: (0, 0)}, [(2, 1, 0), (1, 0, 2)]), bad)
        check_calls(self, grow_by, names, (HAND, {0: (0, 0)}, ((2, 1, 0),)), bad)


if __name__ == "__main__":
    unittest.main()
