"""Point 21 and guarantee (b)."""

import itertools
import unittest

from pairpicks.chains import chain, ends, grown, path
from pairpicks.errors import BadBook, BadOrder, BadPick, NoEnd
from pairpicks.picks import openings, unused
from tests.helper import NOT_BOOKS, Dice, both, check_calls, check_grown, not_orders, not_picks_of

HAND = (((0, 0), (1, 1)), ((0, 0), (1, 1)), ((0, 1), (1, 0)))
NAMES = ["book", "pick", "order"]


def chain_by_hand(book, pick, order):
    """The chain, and whether it ends, told word by word."""
    persons = {person for person, desk in pick.values()}
    desks = {desk for person, desk in pick.values()}
    reached, seen, triples = set(range(8)) - persons, set(), []
    for number in order:
        free = sorted(pair for pair in book[number] if pair[0] in reached and pair[1] not in desks)
        if free:
            return triples + [(number, *free[0])], True
        fresh = sorted(pair for pair in book[number] if pair[0] in reached and pair[1] not in seen)
        if fresh:
            triples.append((number, *fresh[0]))
            seen.add(fresh[0][1])
            reached |= {person for person, desk in pick.values() if desk == fresh[0][1]}
    return triples, False


class ByHand(unittest.TestCase):
    def test_document(self):
        pick = {0: (0, 0)}
        self.assertEqual(chain(HAND, pick, (2, 1)), [(2, 1, 0), (1, 1, 1)])
        self.assertIs(ends(HAND, pick, (2, 1)), True)
        self.assertEqual(path(HAND, pick, (2, 1)), [(1, 1, 1)])
        self.assertEqual(list(grown(HAND, pick, (2, 1)).items()), [(0, (0, 0)), (1, (1, 1))])

    def test_a_longer_path(self):
        book = (((0, 0),), ((1, 1),), ((2, 0),), ((0, 1),), ((1, 2), (3, 0)))
        pick = {1: (1, 1), 0: (0, 0)}
        self.assertEqual(chain(book, pick, (2, 3, 4)), [(2, 2, 0), (3, 0, 1), (4, 1, 2)])
        self.assertEqual(path(book, pick, (2, 3, 4)), [(2, 2, 0), (3, 0, 1), (4, 1, 2)])
        self.assertEqual(list(grown(book, pick, (2, 3, 4)).items()), [(2, (2, 0)), (3, (0, 1)), (4, (1, 2))])
        self.assertEqual(pick, {1: (1, 1), 0: (0, 0)})

    def test_plans_are_passed_over(self):
        book = (((0, 0),), ((1, 1),), ((2, 0),), ((0, 1),), ((1, 2), (3, 0)))
        pick = {0: (0, 0), 1: (1, 1)}
        self.assertEqual(chain(book, pick, (3, 2, 4)), [(2, 2, 0)])
        self.assertEqual(chain(book, pick, (2, 4, 3)), [(2, 2, 0), (3, 0, 1)])
        self.assertEqual(chain(book, pick, (4, 3, 2)), [(4, 3, 0), (3, 0, 1)])
        for order in ((3, 2, 4), (2, 4, 3), (4, 3, 2)):
            self.assertIs(ends(book, pick, order), False)
            self.assertRaises(NoEnd, path, book, pick, order)
            self.assertRaises(NoEnd, grown, book, pick, order)

    def test_the_first_pair_that_ends_counts(self):
        book = (((0, 0),), ((1, 0), (2, 5), (3, 4)))
        self.assertEqual(chain(book, {0: (0, 0)}, (1,)), [(1, 2, 5)])
        self.assertEqual(chain(book, {}, (1, 0)), [(1, 1, 0)])
        self.assertEqual(chain(book, {}, (0, 1)), [(0, 0, 0)])

    def test_a_branch_that_does_not_lead_to_the_end(self):
        book = (((0, 0),), ((1, 1),), ((2, 0),), ((3, 1),), ((1, 4),))
        pick = {0: (0, 0), 1: (1, 1)}
        self.assertEqual(chain(book, pick, (2, 3, 4)), [(2, 2, 0), (3, 3, 1), (4, 1, 4)])
        self.assertEqual(path(book, pick, (2, 3, 4)), [(3, 3, 1), (4, 1, 4)])
        self.assertEqual(grown(book, pick, (2, 3, 4)), {0: (0, 0), 3: (3, 1), 4: (1, 4)})

    def test_nothing_left(self):
        for book, pick in (((((0, 0),),), {0: (0, 0)}), (((),), {}), ((((0, 0),), ((0, 0),)), {1: (0, 0)})):
            left = unused(book, pick)
            self.assertEqual(chain(book, pick, left), [])
            self.assertIs(ends(book, pick, left), False)
            self.assertRaises(NoEnd, path, book, pick, left)


class Facts(unittest.TestCase):
    def test_against_the_words(self):
        dice = Dice(50)
        met = set()
        for many in list(range(1, 17)) * 30:
            among = dice.number(1, 8)
            book = dice.book(many, most=among, among=among)
            pick = dice.pick(book)
            before = dict(pick)
            order = dice.order(unused(book, pick))
            triples, end = chain_by_hand(book, pick, order)
            self.assertEqual(chain(book, pick, order), triples)
            self.assertIs(ends(book, pick, order), end)
            self.assertLessEqual(len(triples), len(pick) + 1)
            self.assertEqual(len({triple[2] for triple in triples}), len(triples))
            met.add((end, min(len(triples), 3)))
            if openings(book, pick):
                self.assertIs(end, True)
            if end:
                check_grown(self, book, pick, triples, path(book, pick, order), grown(book, pick, order))
            else:
                self.assertRaises(NoEnd, path, book, pick, order)
                self.assertRaises(NoEnd, grown, book, pick, order)
            self.assertEqual(pick, before)
        self.assertEqual(met, {(True, 1), (True, 2), (True, 3), (False, 0), (False, 1), (False, 2), (False, 3)})

    def test_guarantee_b(self):
        dice = Dice(51)
        for j in list(range(8)) * 25:
            while True:
                many = dice.number(2 * j + 1, min(2 * j + 3, 16))
                book = dice.book(many, least=j + 1, most=j + 1, among=dice.number(j + 1, 8))
                pick = dice.pick(book, most=j)
                if len(pick) == j:
                    break
            order = dice.order(unused(book, pick))
            self.assertGreaterEqual(len(order), j + 1)
            self.assertIs(ends(book, pick, order), True)
            self.assertEqual(len(grown(book, pick, order)), j + 1)

    def test_guarantee_b_for_all_small_books(self):
        plans = [((0, a), (1, b)) for a, b in itertools.permutations(range(3), 2)]
        for two in itertools.product(plans, repeat=2):
            for person, desk in itertools.product(range(3), repeat=2):
                book = (((person, desk),), *two)
                for order in ((1, 2), (2, 1)):
                    self.assertIs(ends(book, {0: (person, desk)}, order), True)

    def test_one_plan_fewer_may_fail(self):
        book = (((0, 0), (1, 1)), ((0, 1), (1, 0)))
        self.assertIs(ends(book, {0: (0, 0)}, (1,)), False)


class Calls(unittest.TestCase):
    def test_calls(self):
        orders = both(not_orders((1, 2)) + [(0, 1), (0, 1, 2), (1, 2, 0), (2,), ()], BadOrder)
        bad = [both(NOT_BOOKS, BadBook), both(not_picks_of(HAND), BadPick), orders]
        for function in (chain, ends, path, grown):
            check_calls(self, function, NAMES, (HAND, {0: (0, 0)}, (2, 1)), bad)
            self.assertRaises(BadOrder, function, HAND, {}, (True, 0, 2))
            self.assertRaises(BadOrder, function, HAND, {}, (1, False, 2))


if __name__ == "__main__":
    unittest.main()
