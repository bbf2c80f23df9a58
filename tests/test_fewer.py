"""Point 40 and guarantee (d), its first part."""

import itertools
import unittest

from pairpicks.books import sizes, sure
from pairpicks.chains import chain, ends
from pairpicks.errors import BadBook, BadNumber, BadOrder, BadPick, BadSizes, NoEnd
from pairpicks.fewer import plans_for, wide_chain, wide_ends, wide_grow, wide_grown, wide_path, wide_sure
from pairpicks.picks import openings, unused
from tests.helper import (NOT_BOOKS, NOT_NUMBERS, NOT_SIZES, Dice, both, check_calls, check_grown, most_pairs,
                          not_orders, not_picks_of)

HAND = (((0, 0), (1, 1)), ((0, 0), (1, 1)), ((0, 1), (1, 0)))
LONG = (((0, 0),), ((1, 1),), ((2, 2),), ((3, 0), (4, 1)), ((1, 2), (7, 0)), ((2, 5), (3, 1)))
LONG_PICK = {2: (2, 2), 0: (0, 0), 1: (1, 1)}
NAMES = ["book", "pick", "order"]


def wide_chain_by_words(book, pick, order):
    """The wide chain, and whether it ends, told word by word."""
    owner = {desk: person for person, desk in pick.values()}
    reached, seen, triples = set(range(8)) - set(owner.values()), set(), []
    for number in order:
        pairs = sorted(pair for pair in book[number] if pair[0] in reached and pair[1] not in seen)
        beside = [pair for pair in pairs if pair[1] not in owner]
        if beside:
            return triples + [(number, *min(beside))], True
        triples += [(number, *pair) for pair in pairs]
        seen |= {desk for person, desk in pairs}
        reached |= {owner[desk] for person, desk in pairs}
    return triples, False


def more_than(book, numbers, most):
    """What the sizes of these plans are more than most, added up."""
    return sum(max(0, len(book[number]) - most) for number in numbers)


class ByHand(unittest.TestCase):
    def test_document(self):
        self.assertEqual([plans_for(5, 0), plans_for(5, 1)], [9, 5])
        self.assertEqual(wide_sure((5, 5, 5, 5, 5)), 4)
        self.assertEqual(wide_chain(HAND, {0: (0, 0)}, (2, 1)), [(2, 1, 0), (1, 1, 1)])

    def test_all_pairs_of_a_plan_count_at_once(self):
        triples = [(3, 3, 0), (3, 4, 1), (4, 1, 2), (5, 2, 5)]
        self.assertEqual(wide_chain(LONG, LONG_PICK, (3, 4, 5)), triples)
        self.assertIs(wide_ends(LONG, LONG_PICK, (3, 4, 5)), True)
        self.assertEqual(wide_path(LONG, LONG_PICK, (3, 4, 5)), [(3, 4, 1), (4, 1, 2), (5, 2, 5)])
        self.assertEqual(list(wide_grown(LONG, LONG_PICK, (3, 4, 5)).items()),
                         [(0, (0, 0)), (3, (4, 1)), (4, (1, 2)), (5, (2, 5))])
        self.assertIs(ends(LONG, LONG_PICK, (3, 4, 5)), False)
        self.assertEqual(LONG_PICK, {2: (2, 2), 0: (0, 0), 1: (1, 1)})

    def test_who_is_reached_by_a_plan_does_not_count_in_it(self):
        # Plan 1 reaches 0 by the desk 0, too late for its own pair (0, 1).
        book = (((0, 0),), ((0, 1), (1, 0)), ((0, 1), (1, 0)))
        self.assertEqual(wide_chain(book, {0: (0, 0)}, (1, 2)), [(1, 1, 0), (2, 0, 1)])
        self.assertEqual(wide_chain(book[:2], {0: (0, 0)}, (1,)), [(1, 1, 0)])
        self.assertIs(wide_ends(book[:2], {0: (0, 0)}, (1,)), False)

    def test_the_first_pair_that_ends_counts_alone(self):
        book = (((0, 0),), ((1, 0), (2, 5), (3, 4)))
        self.assertEqual(wide_chain(book, {0: (0, 0)}, (1,)), [(1, 2, 5)])
        self.assertEqual(wide_path(book, {0: (0, 0)}, (1,)), [(1, 2, 5)])
        self.assertEqual(wide_grown(book, {0: (0, 0)}, (1,)), {0: (0, 0), 1: (2, 5)})
        self.assertEqual(wide_chain(book, {}, (1, 0)), [(1, 1, 0)])
        self.assertEqual(wide_chain(book, {}, (0, 1)), [(0, 0, 0)])

    def test_plans_are_passed_over(self):
        self.assertEqual(wide_chain(LONG, LONG_PICK, (4, 3, 5)), [(4, 7, 0), (3, 4, 1)])
        self.assertEqual(wide_chain(LONG, LONG_PICK, (4, 5, 3)), [(4, 7, 0), (5, 3, 1)])
        self.assertEqual(wide_chain(LONG, LONG_PICK, (5, 3, 4)), [(5, 3, 1), (3, 3, 0), (4, 1, 2)])
        for order in ((4, 3, 5), (4, 5, 3), (5, 3, 4)):
            self.assertIs(wide_ends(LONG, LONG_PICK, order), False)
            self.assertRaises(NoEnd, wide_path, LONG, LONG_PICK, order)
            self.assertRaises(NoEnd, wide_grown, LONG, LONG_PICK, order)

    def test_nothing_left(self):
        for book, pick in (((((0, 0),),), {0: (0, 0)}), (((),), {}), ((((0, 0),), ((0, 0),)), {1: (0, 0)})):
            left = unused(book, pick)
            self.assertEqual(wide_chain(book, pick, left), [])
            self.assertIs(wide_ends(book, pick, left), False)
            self.assertRaises(NoEnd, wide_path, book, pick, left)
            self.assertRaises(NoEnd, wide_grown, book, pick, left)
            self.assertEqual(wide_grow(book, pick), [pick])


class WideChains(unittest.TestCase):
    def check_grown(self, book, pick, order, triples):
        """Check the path to the end of these triples, and the pick that grows by it."""
        way = wide_path(book, pick, order)
        check_grown(self, book, pick, triples, way, wide_grown(book, pick, order))
        self.assertEqual(len({triple[0] for triple in way}), len(way))
        return len(way)

    def test_against_the_words(self):
        dice = Dice(210)
        kinds, ways = set(), set()
        for many in list(range(1, 17)) * 50:
            among = dice.number(1, 8)
            book = dice.book(many, most=among, among=among)
            pick = dice.pick(book)
            before = dict(pick)
            for order in (unused(book, pick), dice.order(unused(book, pick))):
                triples, end = wide_chain_by_words(book, pick, order)
                self.assertEqual(wide_chain(book, pick, order), triples)
                self.assertIs(wide_ends(book, pick, order), end)
                numbers = [triple[0] for triple in triples]
                kinds.add((end, len(numbers) > len(set(numbers)), len(numbers) > 1))
                if more_than(book, order, len(pick)) > len(pick) or openings(book, pick):
                    self.assertIs(end, True)
                if end:
                    ways.add(self.check_grown(book, pick, order, triples))
                else:
                    self.assertRaises(NoEnd, wide_path, book, pick, order)
                    self.assertRaises(NoEnd, wide_grown, book, pick, order)
            self.assertEqual(pick, before)
        self.assertEqual(kinds, {(end, *kind) for end in (True, False)
                                 for kind in ((True, True), (False, True), (False, False))})
        self.assertLessEqual({1, 2, 3}, ways)

    def test_small_books_against_the_words(self):
        plans = [((0, 0), (1, 1)), ((0, 1), (1, 0)), ((0, 0), (1, 2)), ((0, 1), (2, 0)), ((1, 1), (2, 0)), ((0, 2),)]
        for book in itertools.product(plans, repeat=3):
            for pick in ({}, {0: book[0][0]}, {0: book[0][-1]}):
                for order in itertools.permutations(unused(book, pick)):
                    triples, end = wide_chain_by_words(book, pick, order)
                    self.assertEqual(wide_chain(book, pick, order), triples)
                    if end:
                        self.check_grown(book, pick, order, triples)

    def test_when_it_surely_ends(self):
        dice = Dice(211)
        met = set()
        for _ in range(800):
            among = dice.number(2, 8)
            book = dice.book(dice.number(2, 8), least=1, most=among, among=among)
            pick = wide_grow(book, {})[-1]
            # The last pick of all is the hardest one: no more can be sure there.
            self.assertLessEqual(more_than(book, unused(book, pick), len(pick)), len(pick))
            fewer = {number: pick[number] for number in dice.part(pick, dice.number(0, len(pick)))}
            left = unused(book, fewer)
            if more_than(book, left, len(fewer)) > len(fewer):
                met.add((len(fewer), len(left) <= len(fewer)))
                self.assertIs(wide_ends(book, fewer, dice.order(left)), True)
        self.assertLessEqual({(1, True), (2, True), (2, False), (3, True)}, met)

    def test_a_chain_that_ends_is_a_wide_chain_that_ends(self):
        dice = Dice(212)
        for _ in range(400):
            book = dice.book(dice.number(1, 8), most=4, among=4)
            pick = dice.pick(book)
            order = dice.order(unused(book, pick))
            if ends(book, pick, order):
                self.assertIs(wide_ends(book, pick, order), True)
            self.assertEqual(chain(book, pick, order)[:1] != [], wide_chain(book, pick, order)[:1] != [])


class WideGrow(unittest.TestCase):
    def check(self, book, pick):
        """Check the list of picks that grow of this one."""
        picks = wide_grow(book, pick)
        self.assertEqual(picks[0], pick)
        self.assertIsNot(picks[0], pick)
        for one in picks:
            self.assertEqual(list(one), sorted(one))
        for one, more in zip(picks, picks[1:]):
            self.assertEqual(more, wide_grown(book, one, unused(book, one)))
        self.assertIs(wide_ends(book, picks[-1], unused(book, picks[-1])), False)
        self.assertGreaterEqual(len(picks[-1]), wide_sure(sizes(book)))
        self.assertGreaterEqual(wide_sure(sizes(book)), sure(book))
        return len(picks[-1])

    def test_by_hand(self):
        self.assertEqual(wide_grow(HAND, {}), [{}, {0: (0, 0)}, {0: (0, 0), 1: (1, 1)}])
        self.assertEqual(wide_grow(LONG, LONG_PICK)[1:], [{0: (0, 0), 3: (4, 1), 4: (1, 2), 5: (2, 5)}])
        self.assertEqual(wide_grow(((), ()), {}), [{}])

    def test_any_book_and_pick(self):
        dice = Dice(213)
        for many in list(range(1, 17)) * 15:
            book = dice.book(many, most=dice.number(1, 8))
            for pick in ({}, dice.pick(book), dice.pick(book, most=2)):
                self.check(book, pick)

    def test_guarantee_d(self):
        dice = Dice(214)
        for k in range(1, 9):
            for j in range(k):
                if plans_for(k, j) > 0:
                    for _ in range(4):
                        book = dice.book(plans_for(k, j), least=k, most=k, among=dice.number(k, 8))
                        for pick in ({}, dice.pick(book), dice.pick(book, most=1)):
                            self.assertGreaterEqual(self.check(book, pick), k - j)

    def test_calls(self):
        bad = [both(NOT_BOOKS, BadBook), both(not_picks_of(HAND), BadPick)]
        check_calls(self, wide_grow, ["book", "pick"], (HAND, {0: (0, 0)}), bad)
        bad.append(both(not_orders((1, 2)) + [(0, 1), (0, 1, 2), (1, 2, 0), (2,), ()], BadOrder))
        for function in (wide_chain, wide_ends, wide_path, wide_grown):
            check_calls(self, function, NAMES, (HAND, {0: (0, 0)}, (2, 1)), bad)
            self.assertRaises(BadOrder, function, HAND, {}, (True, 0, 2))
            self.assertRaises(BadOrder, function, HAND, {}, (1, False, 2))
            self.assertRaises(BadOrder, function, HAND, {}, [0, 1, 2])


class Sure(unittest.TestCase):
    def by_words(self, told):
        """The least m that the words tell."""
        for m in range(17):
            if sum(size - m for size in sorted(told)[::-1][m:] if size > m) <= m:
                return m

    def test_wide_sure(self):
        for told, due in (((0,), 0), ((8,), 1), ((1, 1), 1), ((1,) * 16, 1), ((8,) * 16, 8), ((8,) * 15, 8),
                          ((2, 2), 1), ((2, 2, 2), 2), ((2, 2, 0, 0), 1), ((3, 3), 2), ((8, 8), 2), ((8, 8, 8), 3),
                          ((0,) * 16, 0), ((5, 5, 5, 5), 3), ((1, 5, 2, 5, 5, 5, 5, 3), 4)):
            self.assertEqual(wide_sure(told), due)
        for many in range(1, 6):
            for told in itertools.product(range(5), repeat=many):
                self.assertEqual(wide_sure(told), self.by_words(told))
        dice = Dice(215)
        for many in list(range(1, 17)) * 40:
            told = tuple(dice.number(0, 8) for _ in range(many))
            self.assertEqual(wide_sure(told), self.by_words(told))

    def test_it_is_never_too_much(self):
        dice = Dice(216)
        for _ in range(200):
            book = dice.book(dice.number(1, 5), most=3, among=3)
            self.assertLessEqual(wide_sure(sizes(book)), most_pairs(book))

    def test_plans_for(self):
        self.assertEqual([plans_for(8, j) for j in range(8)], [15, 10, 7, 6, 4, 3, 2, 1])
        self.assertEqual([plans_for(k, 0) for k in range(1, 9)], [2 * k - 1 for k in range(1, 9)])
        self.assertEqual([plans_for(4, j) for j in range(4)], [7, 4, 2, 1])
        for k in range(1, 9):
            for j in range(k):
                due = (j + 2) * k // (j + 1) - (j + 1)
                self.assertEqual(plans_for(k, j), due)
                self.assertGreaterEqual(wide_sure((k,) * due), k - j)

    def test_calls(self):
        check_calls(self, wide_sure, ["sizes"], ((5, 5, 0, 8),), [both(NOT_SIZES, BadSizes)])
        numbers = NOT_NUMBERS + [-1, 9, 999999999]
        names = ["pairs", "fewer"]
        check_calls(self, plans_for, names, (5, 1), [both(numbers + [0], BadNumber), both(numbers + [5], BadNumber)])
        for k in range(1, 9):
            self.assertRaises(BadNumber, plans_for, k, k)
        self.assertRaises(BadNumber, plans_for, 1, False)
        self.assertRaises(BadNumber, plans_for, True, 0)
        check_calls(self, plans_for, names, (8, 7), [both([0, 9], BadNumber), both([8, True], BadNumber)])


if __name__ == "__main__":
    unittest.main()
