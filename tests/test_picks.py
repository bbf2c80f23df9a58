"""Point 20."""

import itertools
import unittest

from pairpicks.errors import BadBook, BadNumber, BadNumbers, BadPair, BadPick, Clash
from pairpicks.picks import is_pick, openings, pick_of, plan_of, unused, with_pair, without
from pairpicks.plans import is_plan
from tests.helper import (NOT_BOOKS, NOT_NUMBERS, NOT_PAIRS, Dice, all_picks, both, check_calls, most_pairs,
                          not_ascending, not_picks_of)

HAND = (((0, 0), (1, 1)), ((0, 1), (1, 0)))
WIDE = (((0, 0), (1, 1)), ((0, 1), (1, 0)), ((2, 2), (3, 3)), (), ((0, 0), (2, 3), (7, 7)))
REFUSED = both(NOT_BOOKS, BadBook), both(not_picks_of(WIDE), BadPick)


class IsPick(unittest.TestCase):
    def test_by_hand(self):
        self.assertIs(is_pick(HAND, {0: (0, 0)}), True)
        self.assertEqual(openings(HAND, {0: (0, 0)}), [])
        for pair, other in itertools.product(HAND[0], HAND[1]):
            self.assertIs(is_pick(HAND, {0: pair, 1: other}), False)

    def test_picks_and_others(self):
        for pick in ({}, {0: (1, 1)}, {2: (3, 3), 0: (0, 0), 4: (7, 7)}, {4: (2, 3), 1: (0, 1)}):
            self.assertIs(is_pick(WIDE, pick), True)
            self.assertIs(is_pick(book=WIDE, thing=pick), True)
        wrong = [{0: (0, 0), 4: (0, 0)}, {0: (0, 0), 1: (0, 1)}, {0: (0, 0), 1: (1, 0)}, {3: (0, 0)}, {5: (0, 0)},
                 {2: (2, 2), 4: (2, 3)}, {2: (3, 3), 4: (2, 3)}, {0: (2, 2)}, {0: ()}]
        for thing in not_picks_of(WIDE) + wrong:
            with self.subTest(thing=thing):
                self.assertIs(is_pick(WIDE, thing), False)
        check_calls(self, is_pick, ["book", "thing"], (WIDE, {0: (0, 0)}), [both(NOT_BOOKS, BadBook)])

    def test_all_dicts_of_a_small_book(self):
        book = (((0, 0), (1, 1)), ((0, 1),), ((0, 0), (1, 2)))
        pairs = [None] + list(itertools.product(range(3), repeat=2))
        due = all_picks(book)
        for row in itertools.product(pairs, repeat=3):
            thing = {number: pair for number, pair in enumerate(row) if pair is not None}
            self.assertIs(is_pick(book, thing), thing in due)

    def test_picks_that_use_all_plans(self):
        diagonal = tuple(((k, k), ) for k in range(8))
        pick = {k: (k, k) for k in range(8)}
        self.assertIs(is_pick(diagonal, pick), True)
        self.assertEqual(unused(diagonal, pick), ())
        self.assertEqual(openings(diagonal, pick), [])
        self.assertEqual(plan_of(diagonal, pick), tuple((k, k) for k in range(8)))


class Told(unittest.TestCase):
    def test_plan_of_and_unused(self):
        pick = {4: (7, 7), 0: (1, 1), 2: (3, 3)}
        self.assertEqual(plan_of(WIDE, pick), ((1, 1), (3, 3), (7, 7)))
        self.assertEqual(unused(WIDE, pick), (1, 3))
        self.assertEqual(plan_of(WIDE, {}), ())
        self.assertEqual(unused(WIDE, {}), (0, 1, 2, 3, 4))

    def test_openings(self):
        self.assertEqual(openings(HAND, {}), [(0, 0, 0), (0, 1, 1), (1, 0, 1), (1, 1, 0)])
        self.assertEqual(openings(WIDE, {0: (1, 1), 2: (3, 3)}), [(4, 0, 0), (4, 7, 7)])
        dice = Dice(40)
        for many in list(range(1, 17)) * 6:
            book = dice.book(many)
            pick = dice.pick(book)
            due = [(number, *pair) for number in range(many) for pair in book[number]
                   if number not in pick and is_pick(book, {**pick, number: pair})]
            self.assertEqual(openings(book, pick), sorted(due))
            self.assertEqual(unused(book, pick), tuple(sorted(set(range(many)) - set(pick))))
            self.assertEqual(plan_of(book, pick), tuple(sorted(pick.values())))
            self.assertIs(is_plan(plan_of(book, pick)), True)

    def test_calls(self):
        for function in (plan_of, unused, openings):
            check_calls(self, function, ["book", "pick"], (WIDE, {4: (7, 7), 0: (0, 0)}), list(REFUSED))


class Changed(unittest.TestCase):
    def test_with_pair(self):
        pick = {2: (3, 3)}
        self.assertEqual(list(with_pair(WIDE, pick, 0, (1, 1)).items()), [(0, (1, 1)), (2, (3, 3))])
        self.assertEqual(with_pair(WIDE, pick, 4, (7, 7)), {2: (3, 3), 4: (7, 7)})
        self.assertEqual(with_pair(WIDE, {}, 4, (0, 0)), {4: (0, 0)})
        self.assertEqual(pick, {2: (3, 3)})

    def test_keys_ascend(self):
        self.assertEqual(list(with_pair(WIDE, {4: (7, 7), 0: (1, 1)}, 2, (2, 2))), [0, 2, 4])
        self.assertEqual(list(without(WIDE, {4: (7, 7), 2: (3, 3), 0: (1, 1)}, (2,))), [0, 4])

    def test_clash_tells_the_least_number(self):
        book = (((5, 5),), ((0, 4),), ((1, 0),), ((0, 0), (2, 2)), ((3, 3),), ((6, 0),))
        for pick, number in (({1: (0, 4), 2: (1, 0)}, 1), ({2: (1, 0), 1: (0, 4), 0: (5, 5)}, 1), ({2: (1, 0)}, 2),
                             ({5: (6, 0), 4: (3, 3)}, 5), ({5: (6, 0), 1: (0, 4)}, 1)):
            with self.assertRaises(Clash) as caught:
                with_pair(book, pick, 3, (0, 0))
            self.assertEqual(caught.exception.number, number)
        both_in_one = (((0, 0),), ((0, 0),))
        with self.assertRaises(Clash) as caught:
            with_pair(both_in_one, {1: (0, 0)}, 0, (0, 0))
        self.assertEqual(caught.exception.number, 1)

    def test_with_pair_calls(self):
        good = (WIDE, {2: (3, 3), 1: (0, 1)}, 4, (7, 7))
        numbers = both(NOT_NUMBERS + [1, 2, 5, -1, 999999999], BadNumber)
        pairs = both(NOT_PAIRS + [(1, 1), (2, 2), (7, 6), (0, 1)], BadPair) + [((0, 0), Clash), ((2, 3), Clash)]
        names = ["book", "pick", "number", "pair"]
        check_calls(self, with_pair, names, good, list(REFUSED) + [numbers, pairs])
        check_calls(self, with_pair, names, (HAND, {}, 0, (1, 1)), [[], [], both([True, False], BadNumber)])
        for pair in ((True, 1), (1, True), (True, True), [1, 1]):
            self.assertRaises(BadPair, with_pair, HAND, {}, 0, pair)
        self.assertRaises(BadPair, with_pair, HAND, {}, 0, (False, False))
        self.assertRaises(BadNumber, with_pair, WIDE, {}, True, (0, 1))

    def test_without(self):
        pick = {4: (7, 7), 0: (1, 1), 2: (3, 3)}
        self.assertEqual(without(WIDE, pick, ()), pick)
        self.assertEqual(list(without(WIDE, pick, ())), [0, 2, 4])
        self.assertIsNot(without(WIDE, pick, ()), pick)
        self.assertEqual(without(WIDE, pick, (0, 4)), {2: (3, 3)})
        self.assertEqual(without(WIDE, pick, (0, 2, 4)), {})
        bad = both(not_ascending(5) + [(1,), (0, 1), (0, 3, 4), (4, 0), (5,)], BadNumbers)
        check_calls(self, without, ["book", "pick", "numbers"], (WIDE, pick, (0, 4)), list(REFUSED) + [bad])
        self.assertRaises(BadNumbers, without, WIDE, {}, (0,))

    def test_back_and_forth(self):
        dice = Dice(41)
        for many in list(range(1, 17)) * 4:
            book = dice.book(many)
            pick = dice.pick(book)
            for number, person, desk in openings(book, pick):
                more = with_pair(book, pick, number, (person, desk))
                self.assertEqual(more, {**pick, number: (person, desk)})
                self.assertIs(is_pick(book, more), True)
                self.assertEqual(without(book, more, (number,)), pick)


class Search(unittest.TestCase):
    def test_pick_of_each_size(self):
        dice = Dice(42)
        for many in list(range(1, 6)) * 12:
            book = dice.book(many, most=4, among=4)
            most = most_pairs(book)
            for size in range(most + 1):
                pick = pick_of(book, size)
                self.assertIs(is_pick(book, pick), True)
                self.assertEqual((len(pick), list(pick)), (size, sorted(pick)))
            self.assertIsNone(pick_of(book, most + 1))


if __name__ == "__main__":
    unittest.main()
