"""Point 60."""

import itertools
import unittest

from pairpicks.errors import BadDials, BadMove, BadMoves, BadPlace
from pairpicks.moves import is_one_ring, move_book, move_plan, moved, places, total_of, turns_of
from pairpicks.plans import is_book, is_plan, met, turned
from pairpicks.rings import are_ring, pieces
from tests.helper import ALL_DIALS, NOT_DIALS, Dice, both, check_calls, not_moves, not_places

ONE_RING = [(size,) for size in range(2, 9)] + [(2, 3), (3, 2)]


def all_places(dials):
    """All places of the dials, ascending."""
    return list(itertools.product(*[range(size) for size in dials]))


def product(dials):
    """The product of the sizes."""
    many = 1
    for size in dials:
        many *= size
    return many


def added(dials, *moves):
    """What the moves add up to."""
    return tuple(sum(move[at] for move in moves) % size for at, size in enumerate(dials))


def back(dials, move):
    """The move turned back."""
    return tuple(-part % size for part, size in zip(move, dials))


def turns_by_words(dials, move):
    """How often a move is made until it is nothing."""
    return next(many for many in range(1, 9) if not any(added(dials, *[move] * many)))


class Moves(unittest.TestCase):
    def test_by_hand(self):
        self.assertEqual(places((2, 2)), [(0, 0), (0, 1), (1, 0), (1, 1)])
        self.assertEqual(move_plan((2, 2), (0, 1)), ((0, 1), (1, 0), (2, 3), (3, 2)))
        self.assertEqual([turns_of((2, 2), move) for move in places((2, 2))], [1, 2, 2, 2])
        self.assertIs(is_one_ring((2, 2)), False)
        self.assertEqual(moved((2, 4), (1, 3), (1, 2)), (0, 1))
        self.assertEqual(total_of((3, 2), ((2, 1), (2, 1), (2, 0))), (0, 0))
        self.assertEqual(move_book((3,), ((0,), (1,))), (((0, 0), (1, 1), (2, 2)), ((0, 1), (1, 2), (2, 0))))

    def test_all_dials(self):
        found = [dials for many in (1, 2, 3) for dials in itertools.product(range(2, 9), repeat=many)
                 if product(dials) <= 8]
        self.assertEqual(sorted(found), sorted(ALL_DIALS))
        for dials in ALL_DIALS:
            self.assertEqual(places(dials), all_places(dials))
            self.assertEqual(len(places(dials)), product(dials))
            self.assertIs(is_one_ring(dials), dials in ONE_RING)
            for move in places(dials):
                self.assertEqual(turns_of(dials, move), turns_by_words(dials, move))
                for place in places(dials):
                    self.assertEqual(moved(dials, place, move), added(dials, place, move))

    def test_plans(self):
        for dials in ALL_DIALS:
            rows = all_places(dials)
            for move in rows:
                plan = move_plan(dials, move)
                self.assertIs(is_plan(plan), True)
                due = [(rows.index(place), rows.index(added(dials, place, move))) for place in rows]
                self.assertEqual(plan, tuple(due))
                self.assertEqual(turned(plan), move_plan(dials, back(dials, move)))

    def test_two_plans(self):
        for dials in ALL_DIALS:
            for one, other in itertools.permutations(places(dials), 2):
                plans = move_plan(dials, one), move_plan(dials, other)
                self.assertEqual(met(*plans), ())
                ring = turns_of(dials, added(dials, one, back(dials, other))) == product(dials)
                self.assertIs(are_ring(*plans), ring)
                self.assertEqual({kind for persons, desks, kind in pieces(*plans)}, {"ring"})

    def test_books_and_totals(self):
        dice = Dice(330)
        for dials in ALL_DIALS:
            for many in range(1, 17):
                moves = dice.moves(dials, many)
                book = move_book(dials, moves)
                self.assertIs(is_book(book), True)
                self.assertEqual(book, tuple(move_plan(dials, move) for move in moves))
                self.assertEqual(total_of(dials, moves), added(dials, *moves))
                self.assertEqual(total_of(dials, moves[::-1]), total_of(dials, moves))

    def test_no_dials(self):
        for many in range(5):
            for dials in itertools.product((-2, 0, 1, 2, 3, 4, 5, 8, 9), repeat=many):
                if dials not in ALL_DIALS:
                    self.assertRaises(BadDials, places, dials)

    def test_calls(self):
        for dials in ALL_DIALS:
            last = tuple(size - 1 for size in dials)
            bad = [both(NOT_DIALS, BadDials), both(not_places(dials), BadMove)]
            check_calls(self, turns_of, ["dials", "move"], (dials, last), bad)
            check_calls(self, move_plan, ["dials", "move"], (dials, last), bad)
            check_calls(self, places, ["dials"], (dials,), bad[:1])
            check_calls(self, is_one_ring, ["dials"], (dials,), bad[:1])
            bad.insert(1, both(not_places(dials), BadPlace))
            check_calls(self, moved, ["dials", "place", "move"], (dials, last, last), bad)
            bad[1:] = [both(not_moves(dials), BadMoves)]
            for moves in ((last,), (last,) * 16, tuple(places(dials))):
                check_calls(self, total_of, ["dials", "moves"], (dials, moves), bad)
                check_calls(self, move_book, ["dials", "moves"], (dials, moves), bad)


if __name__ == "__main__":
    unittest.main()
