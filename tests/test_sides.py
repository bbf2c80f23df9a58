"""Point 42."""

import itertools
import unittest

from pairpicks.books import renamed, turned_book
from pairpicks.errors import BadBook, BadPlan
from pairpicks.picks import is_pick
from pairpicks.plans import is_plan
from pairpicks.sides import is_short_lot, is_side_pick, short_lot, side_most, side_pick
from tests.helper import NOT_BOOKS, NOT_PLANS, Dice, all_picks, all_plans, both, check_calls, not_picks_of, variants

HAND = (((0, 0), (1, 1)), ((0, 0),), ((0, 1), (1, 0)))
DIAGONAL = ((0, 0), (1, 1))
TURNED = ((0, 1), (1, 0))
NAMES = ["book", "side"]


def lots_of(side):
    """All plans, () too, of some pairs of the side."""
    return [lot for size in range(len(side) + 1) for lot in itertools.combinations(side, size)]


def having(book, lot):
    """How many plans of the book have a pair of the lot."""
    return sum(any(pair in plan for pair in lot) for plan in book)


def side_picks(book, side):
    """All side picks, by going through all choices of a plan for each pair."""
    found = []
    for numbers in itertools.permutations(range(len(book)), len(side)):
        if all(pair in book[number] for number, pair in zip(numbers, side)):
            found.append(dict(zip(numbers, side)))
    return found


class Sides(unittest.TestCase):
    def check(self, book, side):
        """Check all that is told of this side; the book has few plans."""
        picks = side_picks(book, side)
        pick, lot = side_pick(book, side), short_lot(book, side)
        short = [each for each in lots_of(side) if having(book, each) < len(each)]
        self.assertEqual((pick is None, lot is None), (picks == [], picks != []))
        self.assertIs(short == [], lot is None)
        if pick is not None:
            self.assertIn(pick, picks)
            self.assertEqual(list(pick), sorted(pick))
            self.assertIs(is_side_pick(book, side, pick), True)
        else:
            self.assertIn(lot, short)
            self.assertIs(is_plan(lot), True)
        for each in lots_of(side):
            self.assertIs(is_short_lot(book, side, each), each in short)
        most = side_most(book, side)
        only = tuple(tuple(pair for pair in plan if pair in side) for plan in book)
        self.assertEqual(most, max(len(each) for each in all_picks(only)))
        self.assertEqual(most, min(len(side) - len(each) + having(book, each) for each in lots_of(side)))
        return pick is not None

    def test_by_hand(self):
        self.assertEqual(list(side_pick(HAND, DIAGONAL).items()), [(0, (1, 1)), (1, (0, 0))])
        self.assertIsNone(short_lot(HAND, DIAGONAL))
        self.assertIsNone(side_pick(HAND, TURNED))
        self.assertEqual(short_lot(HAND, TURNED), TURNED)
        self.assertEqual([side_most(HAND, DIAGONAL), side_most(HAND, TURNED)], [2, 1])
        self.assertIs(is_side_pick(HAND, DIAGONAL, {1: (0, 0), 0: (1, 1)}), True)
        self.assertIs(is_short_lot(HAND, TURNED, TURNED), True)

    def test_small_books_and_all_their_sides(self):
        wider = [((0, 0), (1, 1), (2, 2)), ((0, 1), (1, 2), (2, 0)), ((2, 2),), ((0, 0), (1, 2))]
        sides = all_plans(2, least=1) + wider
        met = set()
        for many in (1, 2, 3):
            for book in itertools.product(all_plans(2), repeat=many):
                for side in sides:
                    met.add((self.check(book, side), len(side)))
        self.assertEqual(met, {(True, 1), (True, 2), (False, 1), (False, 2), (False, 3)})

    def test_books_of_all_kinds(self):
        dice = Dice(230)
        met = set()
        for _ in range(250):
            among = dice.number(1, 4)
            book = dice.book(dice.number(1, 5), most=among, among=among)
            book = tuple(plan if dice.number(0, 1) else book[0] for plan in book)
            for side in {book[0], book[-1], dice.plan(dice.number(1, among), among)} - {()}:
                met.add((self.check(book, side), len(side)))
        self.assertLessEqual({(True, 1), (True, 2), (True, 3), (True, 4), (False, 1), (False, 2), (False, 4)}, met)

    def test_long_books(self):
        dice = Dice(231)
        for many in list(range(1, 17)) * 15:
            side = dice.plan(dice.number(1, 8))
            # Few pairs of the side in each plan: a chain of plans must give way for the last pair.
            book = tuple(tuple(sorted(dice.part(side, min(len(side), dice.number(0, 2))))) for _ in range(many))
            pick, lot, most = side_pick(book, side), short_lot(book, side), side_most(book, side)
            self.assertEqual(most, min(len(side) - len(each) + having(book, each) for each in lots_of(side)))
            self.assertEqual((pick is None, lot is None), (most < len(side), most == len(side)))
            if pick is None:
                self.assertLess(having(book, lot), len(lot))
                self.assertIs(is_short_lot(book, side, lot), True)
            else:
                self.assertEqual(sorted(pick.values()), list(side))
                self.assertIs(is_pick(book, pick), True)
            names = dice.order(range(8)), dice.order(range(8))
            self.assertEqual(side_most(renamed(book, *names), renamed((side,), *names)[0]), most)
            self.assertEqual(side_most(turned_book(book), turned_book((side,))[0]), most)

    def test_a_row_of_plans_gives_way(self):
        side = tuple((k, k) for k in range(8))
        book = tuple(side[k:k + 2] for k in range(7)) + (side[:1],)
        self.assertEqual(side_pick(book, side), {7: (0, 0), **{k: side[k + 1] for k in range(7)}})
        self.assertEqual(short_lot(book[:7], side), side)
        self.assertEqual(side_most(book[:7], side), 7)
        self.assertEqual(side_pick((side,) * 8, side).keys(), set(range(8)))
        self.assertIsNone(side_pick((side,) * 7, side))
        self.assertEqual(short_lot((side,) * 7, side), side)

    def test_is_side_pick_of_any_value(self):
        pick = {0: (1, 1), 1: (0, 0)}
        for thing in not_picks_of(HAND) + variants(pick) + [{}, {0: (0, 0)}, {0: (1, 1)}, {2: (0, 1)}, {1: (0, 0)}]:
            with self.subTest(thing=thing):
                self.assertIs(is_side_pick(HAND, DIAGONAL, thing), False)
        self.assertIs(is_side_pick(HAND, DIAGONAL, {0: (0, 0), 1: (1, 1)}), False)
        self.assertIs(is_side_pick(HAND, DIAGONAL[:1], pick), False)
        self.assertIs(is_side_pick(HAND, DIAGONAL[:1], {0: (0, 0)}), True)
        self.assertIs(is_side_pick(HAND, TURNED, {2: (0, 1)}), False)
        for thing in all_picks(HAND):
            self.assertIs(is_side_pick(HAND, DIAGONAL, thing), thing == pick)

    def test_is_short_lot_of_any_value(self):
        for thing in NOT_PLANS + variants(TURNED) + [(), DIAGONAL, TURNED[:1], TURNED[::-1], TURNED + ((2, 2),)]:
            with self.subTest(thing=thing):
                self.assertIs(is_short_lot(HAND, TURNED, thing), False)
        self.assertIs(is_short_lot(HAND, TURNED + ((2, 2),), ((2, 2),)), True)
        self.assertIs(is_short_lot(HAND, TURNED, ((2, 2),)), False)
        self.assertIs(is_short_lot(HAND, ((2, 2),), ((2, 2),)), True)

    def test_calls(self):
        bad = [both(NOT_BOOKS, BadBook), both(NOT_PLANS + [()], BadPlan)]
        for book, side in ((HAND, DIAGONAL), (HAND, TURNED), (((),), ((7, 7),))):
            for function in (side_pick, short_lot, side_most):
                check_calls(self, function, NAMES, (book, side), bad)
            for function, thing in ((is_side_pick, {0: (1, 1), 1: (0, 0)}), (is_short_lot, TURNED)):
                check_calls(self, function, NAMES + ["thing"], (book, side, thing), bad)
                check_calls(self, function, NAMES + ["thing"], (book, side, None), bad)


if __name__ == "__main__":
    unittest.main()
