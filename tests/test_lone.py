"""Point 30."""

import itertools
import unittest

from pairpicks.books import rearranged, renamed, turned_book
from pairpicks.errors import BadBook, BadDesk, BadLone, BadNumber, BadNumbers, BadPerson, BadRow, TooMany
from pairpicks.lone import is_lone, lone_many, lone_of, lones, spared, spared_many, told_lone
from pairpicks.picks import plan_of
from pairpicks.plans import is_book, is_plan
from pairpicks.rings import ring_of, row_of
from tests.helper import (NOT_BOOKS, NOT_DESKS, NOT_NUMBERS, NOT_PERSONS, Dice, all_picks, both, check_calls,
                          is_lone_by_hand, most_pairs, not_ascending)
from tests.test_rings import NOT_ROWS

TWO = (((0, 0), (1, 1)), ((0, 1), (1, 0)))
ONE3, OTHER3 = ((0, 0), (1, 1), (2, 2)), ((0, 1), (1, 2), (2, 0))
THREE = (ONE3, OTHER3, ONE3, OTHER3)
# Books that are not lone: plans of no ring, too many or too few of them, one of them otherwise, two rings.
RINGS2 = (((0, 0), (1, 1), (2, 2), (3, 3)), ((0, 1), (1, 0), (2, 3), (3, 2)))
NOT_LONE = [
    ((),), ((), ()), (((0, 0),), ((0, 1),)), (((0, 0),),), (TWO[0],), (TWO[0], TWO[0]), TWO + (TWO[0],), TWO + TWO,
    (TWO[0], ()), (TWO[0], TWO[1][:1]), (TWO[0], ((0, 1), (1, 2))), (TWO[0], ((0, 1), (2, 0))), (TWO[0], TWO[1][1:]),
    (ONE3, OTHER3, ONE3), THREE + (ONE3,), THREE + (ONE3, OTHER3), (ONE3, ONE3, ONE3, OTHER3), (ONE3,) * 4,
    (ONE3, OTHER3, ONE3, ((0, 2), (1, 0), (2, 1))), (ONE3, OTHER3, ONE3, ((0, 1), (1, 2), (2, 3))),
    (ONE3, OTHER3), (ONE3, OTHER3, ONE3[:2], OTHER3), (ONE3, OTHER3, ONE3[:2], OTHER3[:2]), RINGS2 * 3, RINGS2 * 2,
    RINGS2, (TWO[0] + ((2, 2),), TWO[1] + ((2, 2),)) * 2, TWO * 8, (ONE3, ((0, 1), (1, 2), (3, 0))) * 2,
    (TWO[0], TWO[0], TWO[1], TWO[1]), (TWO[0] + ((2, 2),), TWO[1] + ((2, 3),)) * 2,
]


def some_lone(dice, k):
    """A lone book of any ring of k persons, and what lone_of was told."""
    told = dice.part(range(8), k), dice.part(range(8), k), tuple(sorted(dice.part(range(2 * k - 2), k - 1)))
    return lone_of(*told), told


class IsLone(unittest.TestCase):
    def test_by_hand(self):
        self.assertIs(is_lone(TWO), True)
        self.assertIs(is_lone(THREE), True)
        self.assertEqual(ring_of((0, 1, 2), (0, 1, 2)), (ONE3, OTHER3))

    def test_books_that_are_not_lone(self):
        for book in NOT_LONE:
            with self.subTest(book=book):
                self.assertIs(is_lone(book), False)
                self.assertIs(is_lone(thing=book), False)
                self.assertRaises(BadLone, told_lone, book)

    def test_any_value(self):
        for thing in NOT_BOOKS + [list(TWO), [list(plan) for plan in TWO], (list(TWO[0]), TWO[1])]:
            with self.subTest(thing=thing):
                self.assertIs(is_lone(thing), False)
        as_bools = (((False, False), (True, True)), ((False, True), (True, False)))
        self.assertIs(is_lone(as_bools), False)

    def test_rings_of_all_lengths_in_any_sequence(self):
        dice = Dice(70)
        for k in list(range(2, 9)) * 8:
            book, _ = some_lone(dice, k)
            self.assertIs(is_book(book), True)
            self.assertIs(is_lone_by_hand(book), True)
            self.assertIs(is_lone(book), True)
            self.assertIs(is_lone(rearranged(book, dice.order(range(len(book))))), True)
            self.assertIs(is_lone(renamed(book, dice.order(range(8)), dice.order(range(8)))), True)
            self.assertIs(is_lone(turned_book(book)), True)
            self.assertIs(is_lone(book[1:]), False)
            self.assertIs(is_lone(book + book[:1]), False)
            self.assertIs(is_lone(book + book[:2]), False)

    def test_one_pair_otherwise(self):
        dice = Dice(71)
        for k in list(range(2, 8)) * 4:
            book, _ = some_lone(dice, k)
            free = next(desk for desk in range(8) if desk not in [pair[1] for pair in book[0]])
            at, place = dice.number(0, len(book) - 1), dice.number(0, k - 1)
            plan = list(book[at])
            plan[place] = (plan[place][0], free)
            self.assertIs(is_lone(book[:at] + (tuple(plan),) + book[at + 1:]), False)
            del plan[place]
            self.assertIs(is_lone(book[:at] + (tuple(plan),) + book[at + 1:]), False)

    def test_all_books_of_two_plans(self):
        plans = [tuple(zip(range(2), row)) for row in itertools.permutations(range(3), 2)]
        for book in itertools.product(plans, repeat=2):
            self.assertIs(is_lone(book), is_lone_by_hand(book))

    def test_all_books_of_four_plans(self):
        plans = [tuple(zip(range(3), row)) for row in itertools.permutations(range(3))]
        found = [book for book in itertools.product(plans, repeat=4) if is_lone(book)]
        self.assertEqual(found, [book for book in itertools.product(plans, repeat=4) if is_lone_by_hand(book)])
        self.assertEqual(found, [book for book in itertools.product(plans, repeat=4) if most_pairs(book) < 3])
        self.assertEqual(len(found), 36)


class Told(unittest.TestCase):
    def test_lone_of(self):
        self.assertEqual(lone_of((0, 1), (0, 1), (0,)), TWO)
        self.assertEqual(lone_of((0, 1), (0, 1), (1,)), (TWO[1], TWO[0]))
        self.assertEqual(lone_of((0, 1, 2), (0, 1, 2), (0, 2)), THREE)
        self.assertEqual(lone_of((0, 1, 2), (0, 1, 2), (2, 3)), (OTHER3, OTHER3, ONE3, ONE3))

    def test_lone_of_calls(self):
        rows = both(NOT_ROWS, BadRow)
        numbers = both(not_ascending(4) + [(), (0,), (0, 1, 2), (0, 4), (2, 1), [0, 1]], BadNumbers)
        good = ((2, 0, 5), (7, 1, 0), (0, 3))
        bad = [rows + both([(0, 1)], BadRow), rows + both([(0, 1)], BadRow), numbers]
        bad[0] = rows
        check_calls(self, lone_of, ["persons", "desks", "numbers"], good, bad)
        self.assertRaises(BadRow, lone_of, (0, 1), (0, 1, 2), (0,))
        self.assertRaises(BadRow, lone_of, (0, 1, 2), (0, 1), (0,))
        self.assertRaises(BadNumbers, lone_of, (0, 1), (0, 1), (2,))
        self.assertRaises(BadNumbers, lone_of, (0, 1), (0, 1), (0, 1))
        self.assertRaises(BadNumbers, lone_of, tuple(range(8)), tuple(range(8)), (0, 1, 2, 3, 4, 5, 14))

    def test_told_lone(self):
        self.assertEqual(told_lone(TWO), ((0, 1), (0, 1), (0,)))
        self.assertEqual(told_lone((TWO[1], TWO[0])), ((0, 1), (1, 0), (0,)))
        self.assertEqual(told_lone(THREE), ((0, 1, 2), (0, 1, 2), (0, 2)))
        self.assertEqual(told_lone((OTHER3, ONE3, ONE3, OTHER3)), ((0, 2, 1), (1, 0, 2), (0, 3)))

    def test_told_and_made_again(self):
        dice = Dice(72)
        for k in list(range(2, 9)) * 10:
            book, (persons, desks, numbers) = some_lone(dice, k)
            told = told_lone(book)
            self.assertEqual(lone_of(*told), book)
            self.assertEqual((told[0][0], told[2][0]), (min(persons), 0))
            other = next(plan for plan in book if plan != book[0])
            self.assertEqual(told[:2], row_of(book[0], other))
            self.assertEqual(set(told[0]), set(persons))
            self.assertEqual(set(told[1]), set(desks))
            self.assertIn(set(told[2]), [set(numbers), set(range(2 * k - 2)) - set(numbers)])

    def test_told_lone_calls(self):
        bad = both(NOT_BOOKS, BadBook) + both(NOT_LONE, BadLone)
        check_calls(self, told_lone, ["book"], (THREE,), [bad])


class Many(unittest.TestCase):
    def test_lone_many(self):
        self.assertEqual([lone_many(k) for k in (2, 3, 4)], [2, 36, 1440])
        for k in range(2, 9):
            ways = 1
            for step in range(1, k):
                ways = ways * (k - 1 + step) // step
            for step in range(1, k):
                ways = ways * step * step
            self.assertEqual(lone_many(k), ways * k // 2)
        check_calls(self, lone_many, ["k"], (8,), [both(NOT_NUMBERS + [-2, 0, 1, 9, 999999999], BadNumber)])

    def test_lones(self):
        self.assertEqual(lones((0, 1), (0, 1)), [TWO, (TWO[1], TWO[0])])
        for persons, desks in (((0, 1), (0, 1)), ((3, 7), (0, 5)), ((0, 1, 2), (0, 1, 2)), ((1, 4, 7), (2, 3, 6))):
            found = lones(persons, desks)
            self.assertEqual(found, sorted(found))
            self.assertEqual(len(set(found)), len(found))
            self.assertEqual(len(found), lone_many(len(persons)))
            for book in found:
                self.assertIs(is_lone_by_hand(book), True)
                self.assertEqual({pair[0] for pair in book[0]}, set(persons))
                self.assertEqual({pair[1] for pair in book[0]}, set(desks))

    def test_lones_calls(self):
        bad = NOT_ROWS + [(1, 0), (2, 0, 1), (0, 2, 1)]
        desks = both(bad + [(0, 1), (0, 1, 2, 3)], BadRow)
        names = ["persons", "desks"]
        check_calls(self, lones, names, ((0, 2, 7), (1, 3, 5)), [both(bad, BadRow), desks])
        check_calls(self, lones, names, ((0, 7), (1, 3)), [both(bad, BadRow), both(bad + [(0, 1, 2)], BadRow)])

    def test_rows_of_fewer_than_two(self):
        for row in ((), (0,), (7,)):
            self.assertRaises(BadRow, lones, row, row)
            self.assertRaises(BadRow, lone_of, row, row, ())

    def test_lones_of_more_than_three(self):
        for many in range(4, 9):
            with self.assertRaises(TooMany) as caught:
                lones(tuple(range(many)), tuple(range(8 - many, 8)))
            self.assertEqual(caught.exception.most, 3)
            self.assertRaises(BadRow, lones, tuple(range(many)), tuple(range(many - 1)))
            self.assertRaises(BadRow, lones, tuple(range(many)), tuple(range(many, 0, -1)))
            self.assertRaises(BadRow, lones, (1, 0) + tuple(range(2, many)), tuple(range(many)))
            self.assertRaises(BadRow, lones, tuple(range(many)), None)


class Spared(unittest.TestCase):
    def test_by_hand(self):
        book = (ONE3, ONE3, OTHER3, OTHER3)
        self.assertEqual((spared(book, 0, 0), spared_many(book, 0, 0)), (((1, 1), (2, 2)), 2))
        self.assertEqual((spared(book, 0, 2), spared_many(book, 0, 2)), (((1, 1), (2, 0)), 4))
        self.assertEqual((spared(book, 0, 1), spared_many(book, 0, 1)), (((1, 2), (2, 0)), 2))
        self.assertEqual(spared(TWO, 0, 0), ((1, 1),))
        self.assertEqual(spared(TWO, 0, 1), ((1, 0),))

    def test_against_all_picks(self):
        dice = Dice(73)
        for k in (2, 2, 3, 3, 3, 4, 4):
            book, (persons, desks, _) = some_lone(dice, k)
            counts = {}
            for pick in all_picks(book):
                self.assertLess(len(pick), k)
                if len(pick) == k - 1:
                    plan = plan_of(book, pick)
                    counts[plan] = counts.get(plan, 0) + 1
            told = {}
            for person, desk in itertools.product(persons, desks):
                plan = spared(book, person, desk)
                self.assertNotIn(person, [pair[0] for pair in plan])
                self.assertNotIn(desk, [pair[1] for pair in plan])
                told[plan] = spared_many(book, person, desk)
            self.assertEqual(told, counts)
            self.assertEqual(len(told), k * k)

    def test_rings_of_all_lengths(self):
        dice = Dice(74)
        for k in range(2, 9):
            book, (persons, desks, _) = some_lone(dice, k)
            pairs = {pair for plan in book for pair in plan}
            for person, desk in itertools.product(persons, desks):
                plan = spared(book, person, desk)
                self.assertIs(is_plan(plan), True)
                self.assertLessEqual(set(plan), pairs)
                self.assertEqual({pair[0] for pair in plan}, set(persons) - {person})
                self.assertEqual({pair[1] for pair in plan}, set(desks) - {desk})
                ways = 1
                for one in (book[0], next(each for each in book if each != book[0])):
                    for taken in range(len([pair for pair in plan if pair in one])):
                        ways *= k - 1 - taken
                self.assertEqual(spared_many(book, person, desk), ways)

    def test_calls(self):
        book = lone_of((3, 1, 4), (1, 5, 6), (0, 3))
        bad = [both(NOT_BOOKS, BadBook) + both(NOT_LONE, BadLone),
               both(NOT_PERSONS + [0, 2, 5, 6, 7], BadPerson), both(NOT_DESKS + [0, 2, 3, 4, 7], BadDesk)]
        for function in (spared, spared_many):
            check_calls(self, function, ["book", "person", "desk"], (book, 1, 1), bad)


if __name__ == "__main__":
    unittest.main()
