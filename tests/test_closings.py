"""Point 61."""

import itertools
import unittest

from pairpicks.barring import always_closing
from pairpicks.closings import closing, closing_by, closings_many, is_closing, pick_by
from pairpicks.errors import BadClosing, BadDials, BadMoves, BadPick
from pairpicks.moves import move_book
from pairpicks.picks import is_pick, pick_of
from tests.helper import ALL_DIALS, NOT_DIALS, ODD, Dice, both, check_calls, nested, not_ascending, not_moves
from tests.helper import not_picks_of, variants
from tests.test_moves import added, product

NAMES = ["dials", "moves"]
HAND = ((0,), (1,), (1,), (2,))
POWERS = {2: 2, 3: 3, 4: 2, 5: 5, 7: 7, 8: 2}


def closings_by_words(dials, moves):
    """All closings, all tuples of n indexes gone through."""
    rows = itertools.combinations(range(len(moves)), product(dials))
    return [row for row in rows if not any(added(dials, *[moves[index] for index in row]))]


class Closings(unittest.TestCase):
    def check(self, dials, moves):
        """Check the closings of the moves, against all tuples of n indexes."""
        due = closings_by_words(dials, moves)
        found = closing(dials, moves)
        self.assertIs(found is None, due == [])
        self.assertEqual(closings_many(dials, moves), len(due))
        if found is not None:
            self.assertIn(found, due)
            self.check_pick(dials, moves, found)
        return due

    def check_pick(self, dials, moves, indexes):
        """Check the pick of a closing, and the closing of the pick."""
        self.assertIs(is_closing(dials, moves, indexes), True)
        pick = pick_by(dials, moves, indexes)
        self.assertIs(is_pick(move_book(dials, moves), pick), True)
        self.assertEqual(list(pick), list(indexes))
        self.assertEqual(closing_by(dials, moves, {index: pick[index] for index in indexes[::-1]}), indexes)

    def test_by_hand(self):
        self.assertEqual(self.check((3,), HAND), [(0, 1, 3), (0, 2, 3)])
        self.assertEqual(closing_by((3,), HAND, {0: (0, 0), 1: (1, 2), 3: (2, 1)}), (0, 1, 3))
        self.assertEqual(closings_many((3,), HAND), 2)

    def test_few_moves(self):
        for dials in ((2,), (3,), (2, 2)):
            for many in range(1, 5):
                for moves in itertools.product(itertools.product(*[range(size) for size in dials]), repeat=many):
                    due = self.check(dials, moves)
                    for size in range(many + 1):
                        for row in itertools.combinations(range(many), size):
                            self.assertIs(is_closing(dials, moves, row), row in due)

    def test_drawn_moves(self):
        dice = Dice(340)
        found = set()
        for dials in ALL_DIALS:
            for many in range(1, 13):
                moves = dice.moves(dials, many)
                due = self.check(dials, moves)
                found.add((due == [], many < product(dials)))
                for row in due[:3] + due[-3:]:
                    self.check_pick(dials, moves, row)
        self.assertEqual(found, {(True, True), (True, False), (False, False)})

    def test_enough_moves_always_have_one(self):
        dice = Dice(341)
        for dials in ALL_DIALS:
            n = product(dials)
            for _ in range(40):
                moves = dice.moves(dials, 2 * n - 1)
                found = closing(dials, moves)
                self.check_pick(dials, moves, found)
                self.assertGreater(closings_many(dials, moves), 0)

    def test_moves_have_one_exactly_if_their_book_has_a_pick(self):
        dice = Dice(342)
        found = set()
        for dials in ALL_DIALS:
            for _ in range(30):
                n = product(dials)
                moves = dice.moves(dials, dice.number(n, 2 * n - 2))
                pick = pick_of(move_book(dials, moves), n)
                self.assertIs(pick is None, closing(dials, moves) is None)
                found.add(pick is None)
                if pick is not None:
                    indexes = closing_by(dials, moves, pick)
                    self.assertEqual(indexes, tuple(sorted(pick)))
                    self.check_pick(dials, moves, indexes)
        self.assertEqual(found, {True, False})

    def test_how_many_closings(self):
        dice = Dice(343)
        for dials in ALL_DIALS:
            n = product(dials)
            if n in POWERS:
                for many in range(always_closing(dials), 2 * n):
                    for _ in range(12):
                        self.assertEqual(closings_many(dials, dice.moves(dials, many)) % POWERS[n], 1)

    def test_sixteen_moves(self):
        dice = Dice(344)
        for dials in ALL_DIALS:
            self.assertEqual(closings_many(dials, ((0,) * len(dials),) * 16),
                             len(list(itertools.combinations(range(16), product(dials)))))
            moves = dice.moves(dials, 16)
            if product(dials) < 7:
                self.check(dials, moves)
            self.check_pick(dials, moves, closing(dials, moves))

    def test_is_closing_of_any_value(self):
        for row in ((0, 1, 3), (0, 2, 3)):
            self.assertIs(is_closing((3,), HAND, row), True)
            for thing in variants(row) + [row + (3,), row[1:], row[::-1], (0,) + row, (row,)]:
                with self.subTest(thing=thing):
                    self.assertIs(is_closing((3,), HAND, thing), False)
        for thing in ODD + [(), (0, 1, 2), (1, 2, 3), (0, 1, 4), (-1, 0, 1), (0, 0, 0), [0, 1, 3], (False, True, 3),
                            (0, True, 3), (nested("tuple"),) * 3, (nested("list"), 1, 3), (0, 1, nested("dict")),
                            {0: 0, 1: 1, 3: 3}, "013", ((0,), (1,), (3,))]:
            self.assertIs(is_closing((3,), HAND, thing), False)

    def test_smaller_picks(self):
        book = move_book((3,), HAND)
        self.assertIs(is_pick(book, {0: (0, 0), 1: (1, 2)}), True)
        for pick in ({}, {0: (0, 0)}, {0: (0, 0), 1: (1, 2)}):
            self.assertRaises(BadPick, closing_by, (3,), HAND, pick)

    def test_calls(self):
        bad = [both(NOT_DIALS, BadDials), both(not_moves((3,)), BadMoves)]
        for function in (closing, closings_many):
            check_calls(self, function, NAMES, ((3,), HAND), bad)
            check_calls(self, function, NAMES, ((3,), HAND[:1]), bad)
            check_calls(self, function, NAMES, ((3,), HAND * 4), bad)
        check_calls(self, is_closing, NAMES + ["thing"], ((3,), HAND, (0, 1, 3)), bad)
        check_calls(self, is_closing, NAMES + ["thing"], ((3,), HAND, None), bad)
        pick = {1: (1, 2), 0: (0, 0), 3: (2, 1)}
        picks = both(not_picks_of(move_book((3,), HAND)) + [{}, {0: (0, 0)}], BadPick)
        check_calls(self, closing_by, NAMES + ["pick"], ((3,), HAND, pick), bad + [picks])
        rows = both(not_ascending(4) + [(), (0, 1, 2), (0, 3), (0, 1, 2, 3)], BadClosing)
        check_calls(self, pick_by, NAMES + ["closing"], ((3,), HAND, (0, 2, 3)), bad + [rows])
        more = [both(NOT_DIALS, BadDials), both(not_moves((2, 2)), BadMoves)]
        check_calls(self, closing, NAMES, ((2, 2), ((0, 1),) * 4), more)
        check_calls(self, closings_many, NAMES, ((2, 2), ((0, 1),) * 16), more)


if __name__ == "__main__":
    unittest.main()
