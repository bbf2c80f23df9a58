"""Point 32, trails.py."""

import itertools
import unittest

from pairpicks.books import renamed, turned_book
from pairpicks.errors import BadBook, NotTrailing
from pairpicks.picks import is_pick
from pairpicks.rings import ring_of
from pairpicks.trails import is_trailing, trail_line, trail_pick
from pairpicks.twofold import twofold, twofold_most
from tests.helper import NOT_BOOKS, Dice, both, check_calls, most_pairs

HAND = (((0, 0), (1, 1)), ((1, 0), (2, 1)))
RING2 = ring_of((0, 1), (0, 1))
# Books with a ring, with a person or a desk in three pairs, also beside trails.
NOT_TRAILING = [
    RING2, ring_of((0, 1, 2), (0, 1, 2)), ring_of(tuple(range(8)), tuple(range(8))),
    RING2 + (((5, 5),),), (((5, 5), (6, 6)), ((5, 6),), ((0, 2), (1, 3)), ((0, 3), (1, 2))),
    (((0, 0),), ((0, 1),), ((0, 2),)), (((0, 0),), ((1, 0),), ((2, 0),)), (((0, 0), (1, 1)), ((0, 2),), ((0, 3),)),
    (((3, 1),), ((4, 1), (5, 5)), (), ((6, 1),)), (((0, 1),), ((0, 2),), ((0, 3),), ((1, 1),)),
]


def shares(pair, other):
    """Whether two pairs have the person or the desk in common."""
    return pair[0] == other[0] or pair[1] == other[1]


def pairs_of(book):
    """The ascending pairs of the book."""
    return sorted({pair for plan in book for pair in plan})


def is_trailing_by_words(book):
    """Whether nobody and no desk is in three pairs, and no ring comes if one pair after the other is laid down."""
    pairs = pairs_of(book)
    for at in (0, 1):
        for pair in pairs:
            if sum(other[at] == pair[at] for other in pairs) > 2:
                return False
    lots = []
    for person, desk in pairs:
        joined = [lot for lot in lots if ("person", person) in lot or ("desk", desk) in lot]
        if len(joined) == 1 and {("person", person), ("desk", desk)} <= joined[0]:
            return False
        lots = [lot for lot in lots if lot not in joined] + [set().union({("person", person), ("desk", desk)}, *joined)]
    return True


def trail_pick_by_words(book):
    """The pick that takes the first pair of the line that it can, beginning again behind each."""
    pick = {}
    while True:
        for pair in trail_line(book):
            free = [number for number, plan in enumerate(book) if number not in pick and pair in plan]
            if free and not any(shares(pair, other) for other in pick.values()):
                pick[free[0]] = pair
                break
        else:
            return pick


class Trails(unittest.TestCase):
    def check_line(self, book):
        """Check that the line is the one that the words tell: there is no other one."""
        line = trail_line(book)
        self.assertEqual(sorted(line), pairs_of(book))
        trails = []
        for pair in line:
            if trails and shares(trails[-1][-1], pair):
                trails[-1].append(pair)
            else:
                trails.append([pair])
        for trail, other in itertools.combinations(trails, 2):
            self.assertFalse(any(shares(pair, each) for pair in trail for each in other))
        for trail in trails:
            self.assertLessEqual(trail[0], trail[-1])
            for at, other in itertools.combinations(range(len(trail)), 2):
                self.assertIs(shares(trail[at], trail[other]), other == at + 1)
        self.assertEqual([trail[0] for trail in trails], sorted(trail[0] for trail in trails))
        return trails

    def check_pick(self, book):
        """Check the pick of a trailing book, and what the document promises of it."""
        pick = trail_pick(book)
        self.assertIs(is_pick(book, pick), True)
        self.assertEqual(pick, trail_pick_by_words(book))
        self.assertEqual(list(pick), sorted(pick))
        for t in range(9):
            if sum(len(plan) >= t for plan in book) >= t:
                self.assertGreaterEqual(len(pick), t)

    def trailing_book(self, dice):
        """A book of any trailing pairs."""
        line = []
        persons, desks = list(dice.order(range(8))), list(dice.order(range(8)))
        while persons and desks:
            person, desk, turn = persons.pop(), desks.pop(), dice.number(0, 1)
            line.append((person, desk))
            for _ in range(dice.number(0, 8)):
                if turn and persons:
                    person = persons.pop()
                elif not turn and desks:
                    desk = desks.pop()
                else:
                    break
                turn = 1 - turn
                line.append((person, desk))
        plans = []
        for _ in range(dice.number(1, 16)):
            plan = []
            for pair in dice.order(line)[:dice.number(0, len(line))]:
                if not any(shares(pair, other) for other in plan):
                    plan.append(pair)
            plans.append(tuple(sorted(plan)))
        return tuple(plans)

    def test_by_hand(self):
        self.assertIs(is_trailing(HAND), True)
        self.assertEqual(trail_line(HAND), [(0, 0), (1, 0), (1, 1), (2, 1)])
        self.assertEqual(list(trail_pick(HAND).items()), [(0, (0, 0)), (1, (2, 1))])
        self.assertEqual(twofold_most(*HAND, 1, 1), 2)

    def test_one_trail_begins_with_the_lesser_end(self):
        self.assertEqual(trail_line((((0, 7),), ((1, 7),), ((1, 0),))), [(0, 7), (1, 7), (1, 0)])
        self.assertEqual(trail_line((((5, 0), (6, 1)), ((5, 1),), ((0, 0),))), [(0, 0), (5, 0), (5, 1), (6, 1)])
        self.assertEqual(trail_line((((1, 5),), ((0, 0), (1, 6)), ((0, 5),))), [(0, 0), (0, 5), (1, 5), (1, 6)])
        self.assertEqual(trail_line((((0, 1),), ((1, 0),), ((1, 1),))), [(0, 1), (1, 1), (1, 0)])

    def test_several_trails(self):
        book = (((0, 4), (3, 3)), ((5, 5),), ((2, 3), (5, 6)), ((0, 7), (2, 2)))
        self.assertEqual(trail_line(book), [(0, 4), (0, 7), (2, 2), (2, 3), (3, 3), (5, 5), (5, 6)])
        alone = (((1, 1), (2, 2)), ((0, 0), (2, 2)), (), ((1, 1),))
        self.assertEqual(trail_line(alone), [(0, 0), (1, 1), (2, 2)])
        self.assertEqual(trail_pick(alone), {0: (1, 1), 1: (0, 0)})

    def test_trails_are_in_the_sequence_of_their_first_pairs(self):
        # The least pair of all stands in the middle of the second trail.
        book = (((0, 0),), ((1, 3),), ((2, 1), (5, 0)), ((0, 1),))
        self.assertEqual(trail_line(book), [(1, 3), (2, 1), (0, 1), (0, 0), (5, 0)])

    def test_the_least_number_is_taken(self):
        book = ((), ((4, 4),), ((0, 0),), ((0, 0), (4, 4)), ((0, 0),))
        self.assertEqual(list(trail_pick(book).items()), [(1, (4, 4)), (2, (0, 0))])
        book = (((0, 0), (4, 4)), ((0, 0),))
        self.assertEqual(trail_pick(book), {0: (0, 0)})
        self.assertEqual(trail_pick(book[::-1]), {0: (0, 0), 1: (4, 4)})
        self.assertEqual(list(trail_pick((((4, 4),), ((0, 0),))).items()), [(0, (4, 4)), (1, (0, 0))])

    def test_empty_plans(self):
        for many in (1, 2, 16):
            self.assertIs(is_trailing(((),) * many), True)
            self.assertEqual(trail_line(((),) * many), [])
            self.assertEqual(trail_pick(((),) * many), {})

    def test_not_trailing(self):
        for book in NOT_TRAILING:
            self.assertIs(is_trailing(book), False)
            self.assertRaises(NotTrailing, trail_line, book)
            self.assertRaises(NotTrailing, trail_pick, book)

    def test_all_sets_of_pairs_of_three(self):
        pairs = list(itertools.product(range(3), repeat=2))
        kinds = set()
        for size in range(1, 10):
            for chosen in itertools.combinations(pairs, size):
                book = tuple((pair,) for pair in chosen)
                trailing = is_trailing_by_words(book)
                self.assertIs(is_trailing(book), trailing)
                kinds.add((trailing, size))
                if trailing:
                    self.check_line(book)
                    self.check_pick(book)
        self.assertEqual(kinds, {(True, size) for size in range(1, 6)} | {(False, size) for size in range(3, 10)})

    def test_trailing_books_of_all_kinds(self):
        dice = Dice(200)
        lengths = set()
        for _ in range(300):
            book = self.trailing_book(dice)
            self.assertIs(is_trailing(book), True)
            lengths |= {len(trail) for trail in self.check_line(book)}
            self.check_pick(book)
            names = dice.order(range(8)), dice.order(range(8))
            self.assertIs(is_trailing(renamed(book, *names)), True)
            self.check_line(renamed(book, *names))
            self.check_pick(turned_book(book))
        self.assertLessEqual(set(range(1, 10)), lengths)

    def test_any_book(self):
        dice = Dice(201)
        found = set()
        for _ in range(500):
            book = dice.book(dice.number(1, 4), most=dice.number(1, 4))
            found.add(is_trailing(book))
            self.assertIs(is_trailing(book), is_trailing_by_words(book))
            if is_trailing(book):
                self.check_line(book)
                self.check_pick(book)
        self.assertEqual(found, {True, False})

    def test_t_plans_of_t_pairs(self):
        for t in range(1, 8):
            one, other = tuple((k, k) for k in range(t)), tuple((k + 1, k) for k in range(t))
            for many in range(t + 1):
                if many <= 8 and t - many <= 8:
                    self.check_pick(twofold(one, other, many, t - many))
                    self.assertEqual(len(trail_pick(twofold(one, other, many, t - many))), t)
                    self.assertEqual(most_pairs(twofold(one, other, many, t - many)[:5]), min(t, 5))

    def test_calls(self):
        for function in (trail_line, trail_pick, is_trailing):
            check_calls(self, function, ["book"], (HAND,), [both(NOT_BOOKS, BadBook)])
        for function in (trail_line, trail_pick):
            check_calls(self, function, ["book"], (((),),), [both(NOT_TRAILING, NotTrailing)])


if __name__ == "__main__":
    unittest.main()
