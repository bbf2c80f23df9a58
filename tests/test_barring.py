"""Point 62."""

import itertools
import unittest

from pairpicks.barring import always_closing, barring, free_most, free_moves, is_barring, is_free, never_closing
from pairpicks.closings import closing
from pairpicks.errors import BadDials, BadMove, NotAcross
from pairpicks.lone import is_lone
from pairpicks.moves import is_one_ring, move_book, places, turns_of
from tests.helper import ALL_DIALS, NOT_DIALS, ODD, Dice, both, check_calls, nested, not_moves, not_places
from tests.test_closings import closings_by_words
from tests.test_moves import added, back, product

NAMES = ["dials", "one", "other"]


def is_free_by_words(dials, moves):
    """Whether no one or more of the moves add up to nothing."""
    for size in range(1, len(moves) + 1):
        for row in itertools.combinations(moves, size):
            if not any(added(dials, *row)):
                return False
    return True


def is_told_barring(dials, moves):
    """Whether the moves are two unlike ones, n - 1 times each, the one of which less the other has n turns."""
    n = product(dials)
    if len(moves) != 2 * n - 2 or len(set(moves)) != 2 or moves.count(moves[0]) != n - 1:
        return False
    one, other = sorted(set(moves))
    return turns_of(dials, added(dials, one, back(dials, other))) == n


class Free(unittest.TestCase):
    def test_by_hand(self):
        self.assertEqual(free_most((2, 2)), 2)
        self.assertIs(is_free((2, 2), ((0, 1), (1, 0))), True)
        self.assertEqual(always_closing((2, 2)), 6)
        self.assertIsNone(closing((2, 2), ((0, 0),) * 3 + ((0, 1), (1, 0))))
        self.assertEqual(barring((3,), (0,), (1,)), ((0,), (0,), (1,), (1,)))

    def test_all_dials(self):
        for dials in ALL_DIALS:
            n = product(dials)
            due = n - 1 if is_one_ring(dials) else sum(dials) - len(dials)
            self.assertEqual(free_most(dials), due)
            self.assertEqual(always_closing(dials), n + due)
            self.assertEqual(len(free_moves(dials)), due)
            self.assertIs(is_free(dials, free_moves(dials)), True)
            self.assertIs(is_free_by_words(dials, free_moves(dials)), True)
            never = never_closing(dials)
            self.assertEqual(len(never), n + due - 1)
            self.assertIsNone(closing(dials, never))
            self.assertEqual(closings_by_words(dials, never), [])
            for move in places(dials):
                self.assertIsNotNone(closing(dials, never + (move,)))
                self.assertIs(is_free(dials, free_moves(dials) + (move,)), False)

    def test_no_more_moves_are_free(self):
        for dials in ((2,), (3,), (4,), (5,), (2, 2), (2, 3), (2, 2, 2), (2, 4)):
            rows = list(itertools.combinations_with_replacement(places(dials), free_most(dials) + 1))
            self.assertFalse(any(is_free(dials, row) for row in rows))
        for dials in ((2,), (3,), (2, 2)):
            for row in itertools.combinations_with_replacement(places(dials), always_closing(dials)):
                self.assertIsNotNone(closing(dials, row))

    def test_is_free(self):
        dice = Dice(350)
        found = set()
        for dials in ALL_DIALS:
            self.assertIs(is_free(dials, ()), True)
            self.assertIs(is_free(dials, ((0,) * len(dials),)), False)
            for many in (1, 2, 3, 4, 5, 6, 7, 8) * 5:
                moves = dice.moves(dials, many)
                self.assertIs(is_free(dials, moves), is_free_by_words(dials, moves))
                found.add((many, is_free(dials, moves)))
            for many in (16, 17, 20):
                self.assertIs(is_free(dials, dice.moves(dials, many)), False)
        self.assertLessEqual({(1, True), (2, True), (3, True), (1, False), (4, False)}, found)

    def test_is_free_of_any_value(self):
        for dials in ALL_DIALS:
            good = free_moves(dials)
            more = [list(good), dict(enumerate(good)), good + (None,), nested("tuple"), good[0]]
            for thing in not_moves(dials) + more:
                with self.subTest(dials=dials, thing=thing):
                    self.assertIs(is_free(dials, thing), thing.__class__ is tuple and thing == ())
        self.assertIs(is_free((2,), ((True,),)), False)
        self.assertIs(is_free((2,), ((1,),)), True)


class Barring(unittest.TestCase):
    def test_small_dials(self):
        # A barring for all tuples of 2 * n - 2 moves.
        found = 0
        for dials in ((2,), (3,), (2, 2), (4,)):
            n = product(dials)
            for moves in itertools.product(places(dials), repeat=2 * n - 2):
                due = is_lone(move_book(dials, moves))
                self.assertIs(is_barring(dials, moves), due)
                self.assertIs(is_told_barring(dials, moves), due)
                found += due
        self.assertGreater(found, 20)

    def test_all_dials(self):
        dice = Dice(351)
        for dials in ALL_DIALS:
            n = product(dials)
            rows = [dice.moves(dials, 2 * n - 2) for _ in range(40)]
            some = list(itertools.permutations(places(dials), 2))
            for one, other in some:
                rows.append(dice.order((one,) * (n - 1) + (other,) * (n - 1)))
                rows.append(dice.order((one,) * n + (other,) * (n - 2)))
            found = False
            for moves in rows:
                due = is_lone(move_book(dials, moves))
                self.assertIs(is_barring(dials, moves), due)
                self.assertIs(is_told_barring(dials, moves), due)
                self.assertIs(closing(dials, moves) is None, due)
                found = found or due
            self.assertIs(found, is_one_ring(dials))

    def test_barring(self):
        for dials in ALL_DIALS:
            n = product(dials)
            for one, other in itertools.product(places(dials), repeat=2):
                if turns_of(dials, added(dials, one, back(dials, other))) == n:
                    found = barring(dials, one, other)
                    self.assertEqual(found, (one,) * (n - 1) + (other,) * (n - 1))
                    self.assertIs(is_barring(dials, found), True)
                    self.assertIs(is_barring(dials, found[1:]), False)
                    self.assertIs(is_barring(dials, found + (one,)), False)
                else:
                    self.assertRaises(NotAcross, barring, dials, one, other)

    def test_is_barring_of_any_value(self):
        for dials in ((2,), (3,), (2, 3), (8,)):
            good = barring(dials, (0,) * len(dials), (1,) * len(dials))
            self.assertIs(is_barring(dials, good), True)
            for thing in not_moves(dials) + [(), list(good), dict(enumerate(good)), good[:-1] + (None,)]:
                self.assertIs(is_barring(dials, thing), False)
            for thing in not_places(dials):
                self.assertIs(is_barring(dials, (thing,) + good[1:]), False)
        for thing in ODD + [((0,), (True,)), ((False,), (1,)), ((0,), (0,)), ((0,),), ((0,), (1,), (1,)), ((0,), (2,))]:
            self.assertIs(is_barring((2,), thing), False)

    def test_calls(self):
        bad = [both(NOT_DIALS, BadDials)]
        for dials in ALL_DIALS:
            for function in (free_most, free_moves, always_closing, never_closing):
                check_calls(self, function, ["dials"], (dials,), bad)
            for function in (is_free, is_barring):
                for thing in (free_moves(dials), never_closing(dials), (), None):
                    check_calls(self, function, ["dials", "thing"], (dials, thing), bad)
        for dials, one, other in (((3,), (0,), (1,)), ((2, 3), (1, 2), (0, 0)), ((8,), (7,), (2,))):
            rows = both(not_places(dials), BadMove)
            same = both([one], NotAcross)
            check_calls(self, barring, NAMES, (dials, one, other), bad + [rows, same + rows])
        rows = both(not_places((4,)), BadMove)
        check_calls(self, barring, NAMES, ((4,), (3,), (0,)), bad + [rows, rows + both([(3,), (1,)], NotAcross)])
        for one, other in itertools.product(places((2, 2)), repeat=2):
            self.assertRaises(NotAcross, barring, (2, 2), one, other)
        self.assertRaises(BadMove, barring, (2, 2), (0, 0), (0, 2))
        self.assertRaises(BadMove, barring, (2, 2), (0,), (0, 0))


if __name__ == "__main__":
    unittest.main()
