"""Point 54."""

import itertools
import unittest

from pairpicks.errors import BadBook
from pairpicks.greatest import barred, greatest
from pairpicks.must import always, never, spare
from pairpicks.picks import unused
from tests.helper import NOT_BOOKS, Dice, all_picks, all_plans, both, check_calls

HAND = (((0, 0), (1, 1)), ((0, 1), (1, 0)), ((0, 0),))
SQUARE = tuple((k, k) for k in range(8))


def triples_of(book):
    """The ascending triples (number, person, desk) of all pairs of the book."""
    return [(number, *pair) for number, plan in enumerate(book) for pair in plan]


class Must(unittest.TestCase):
    def check(self, book):
        """Check what is told of all greatest picks, against all of them."""
        picks = all_picks(book)
        most = max(len(pick) for pick in picks)
        best = [pick for pick in picks if len(pick) == most]
        numbers = [number for number in range(len(book)) if all(number in pick for pick in best)]
        persons = [k for k in range(8) if all(k in [pair[0] for pair in pick.values()] for pick in best)]
        desks = [k for k in range(8) if all(k in [pair[1] for pair in pick.values()] for pick in best)]
        self.assertEqual(always(book), (tuple(numbers), tuple(persons), tuple(desks)))
        used = {(number, *pair) for pick in best for number, pair in pick.items()}
        self.assertEqual(never(book), [triple for triple in triples_of(book) if triple not in used])
        self.assertEqual(spare(book), sorted({unused(book, pick) for pick in best}))
        return best

    def check_facts(self, book):
        """Check what the document tells of books that are barred."""
        most, (numbers, persons, desks) = greatest(book), always(book)
        gone, left = never(book), spare(book)
        for number in range(len(book)):
            self.assertIs(number in numbers, greatest(barred(book, (number,), (), ())) == most - 1)
            self.assertIs(number in numbers, not any(number in row for row in left))
        for k in range(8):
            self.assertIs(k in persons, greatest(barred(book, (), (k,), ())) == most - 1)
            self.assertIs(k in desks, greatest(barred(book, (), (), (k,))) == most - 1)
        for number, person, desk in triples_of(book):
            less = greatest(barred(book, (number,), (person,), (desk,)))
            self.assertIs((number, person, desk) in gone, less != most - 1)
        self.assertEqual(left, sorted(set(left)))
        self.assertEqual({len(row) for row in left}, {len(book) - most})

    def test_by_hand(self):
        self.assertEqual(self.check(HAND), [{0: (1, 1), 2: (0, 0)}])
        self.assertEqual(always(HAND), ((0, 2), (0, 1), (0, 1)))
        self.assertEqual(never(HAND), [(0, 0, 0), (1, 0, 1), (1, 1, 0)])
        self.assertEqual(spare(HAND), [(1,)])

    def test_small_books(self):
        for many in (1, 2, 3):
            for book in itertools.product(all_plans(2), repeat=many):
                self.check(book)

    def test_books_of_all_kinds(self):
        dice = Dice(300)
        seen = set()
        for _ in range(200):
            book = dice.small_book(6, 15)
            self.check(book)
            self.check_facts(book)
            seen.add((always(book)[0] == (), never(book) == [], len(spare(book)) == 1))
        # If the same plans are always unused and no plan is always used, the book has no pair.
        self.assertEqual(len(seen), 7)
        self.assertNotIn((True, False, True), seen)

    def test_at_the_limits(self):
        dice = Dice(301)
        for _ in range(30):
            self.check_facts(dice.small_book())
        for book in ((SQUARE, SQUARE, SQUARE, SQUARE[:4]), (SQUARE[:4],) * 4 + (SQUARE[4:7],) * 4):
            self.check_facts(book)
        self.assertEqual(spare((SQUARE[:1],) * 8), sorted(itertools.combinations(range(8), 7)))
        self.assertEqual(always((SQUARE[:1],) * 8), ((), (0,), (0,)))
        row = tuple((pair,) for pair in SQUARE)
        self.assertEqual(always(row), (tuple(range(8)),) * 3)
        self.assertEqual([never(row), spare(row)], [[], [()]])

    def test_empty_plans(self):
        for many in range(1, 9):
            book = ((),) * many
            self.assertEqual([always(book), never(book), spare(book)], [((), (), ()), [], [tuple(range(many))]])
        self.assertEqual(always(((), SQUARE[:1])), ((1,), (0,), (0,)))

    def test_calls(self):
        for function in (always, never, spare):
            check_calls(self, function, ["book"], (HAND,), [both(NOT_BOOKS, BadBook)])


if __name__ == "__main__":
    unittest.main()
