"""Point 51."""

import itertools
import unittest

from pairpicks.errors import BadBook, BadDesks, BadNumbers, BadPersons
from pairpicks.greatest import barred, greatest
from pairpicks.guards import is_guard, least_guard, unguarded
from tests.helper import NOT_BOOKS, Dice, both, check_calls, nested, not_ascending, variants

HAND = (((0, 0), (1, 1)), ((0, 1), (1, 0)))
SQUARE = tuple((k, k) for k in range(8))
NAMES = ["book", "numbers", "persons", "desks"]


def members(guard):
    """How many members a guard has."""
    return sum(len(part) for part in guard)


def subsets(many):
    """All ascending tuples of unlike numbers below many."""
    return [row for size in range(many + 1) for row in itertools.combinations(range(many), size)]


def left_by_words(book, numbers, persons, desks):
    """The triples of the pairs that none of the members guards."""
    return sorted((number, *pair) for number, plan in enumerate(book) for pair in plan
                  if number not in numbers and pair[0] not in persons and pair[1] not in desks)


def fewest_by_words(book):
    """How many members the least guards have: all persons and desks gone through, the plans that are left behind."""
    best = len(book)
    for persons, desks in itertools.product(subsets(8), repeat=2):
        if len(persons) + len(desks) < best:
            left = {triple[0] for triple in left_by_words(book, (), persons, desks)}
            best = min(best, len(persons) + len(desks) + len(left))
    return best


class Guards(unittest.TestCase):
    def check_least(self, book):
        """Check the least guard of a small book, but not that there is none with fewer members."""
        guard = least_guard(book)
        self.assertIs(is_guard(book, guard), True)
        self.assertEqual(left_by_words(book, *guard), [])
        self.assertEqual([list(part) for part in guard], [sorted(set(part)) for part in guard])
        self.assertLessEqual(greatest(book), members(guard))
        self.assertLessEqual(members(guard), 2 * greatest(book))
        return members(guard)

    def test_by_hand(self):
        self.assertEqual(greatest(HAND), 1)
        self.assertIs(is_guard(HAND, ((0, 1), (), ())), True)
        self.assertEqual(self.check_least(HAND), 2)
        for at, many in ((0, 2), (1, 8), (2, 8)):
            for member in range(many):
                guard = tuple((member,) if at == place else () for place in range(3))
                self.assertIs(is_guard(HAND, guard), False)
        self.assertEqual(unguarded(HAND, (), (0,), (0,)), [(0, 1, 1)])

    def test_least_guards(self):
        dice = Dice(270)
        found = set()
        for _ in range(40):
            book = dice.small_book(5, 12)
            due = fewest_by_words(book)
            self.assertEqual(self.check_least(book), due)
            found.add(due - greatest(book))
        self.assertLessEqual({0, 1}, found)

    def test_at_the_limits(self):
        dice = Dice(271)
        for _ in range(80):
            self.check_least(dice.small_book())
        for size in range(1, 9):
            self.assertEqual(self.check_least((SQUARE[:size],)), 1)
            self.assertEqual(greatest((SQUARE[:size],)), 1)
        for many in range(1, 5):
            book = ()
            for k in range(many):
                a, b = 2 * k, 2 * k + 1
                book += (((a, a), (b, b)), ((a, b), (b, a)))
            self.assertEqual(greatest(book), many)
            self.assertEqual(self.check_least(book), 2 * many)
        self.assertEqual(self.check_least(tuple((pair,) for pair in SQUARE)), 8)
        self.assertEqual(self.check_least((SQUARE[:2],) * 8), 2)
        self.assertEqual(self.check_least((SQUARE[:1],) * 8), 1)

    def test_each_kind_of_member(self):
        self.assertEqual(least_guard((SQUARE[:3], (), ())), ((0,), (), ()))
        self.assertEqual(least_guard((((4, 0),), ((4, 1),), ((4, 2),))), ((), (4,), ()))
        self.assertEqual(least_guard((((0, 4),), ((1, 4),), ((2, 4),))), ((), (), (4,)))
        book = (SQUARE[:3], ((5, 4),), ((5, 5),), ((5, 6),), ((3, 7),), ((4, 7),), ((6, 7),))
        self.assertEqual(least_guard(book), ((0,), (5,), (7,)))
        self.assertEqual(least_guard(((),) * 8), ((), (), ()))

    def test_is_guard_and_unguarded(self):
        dice = Dice(272)
        found = set()
        for many in list(range(1, 17)) * 12:
            book = dice.book(many, most=3)
            for _ in range(3):
                guard = dice.members(book)
                left = left_by_words(book, *guard)
                self.assertEqual(unguarded(book, *guard), left)
                self.assertIs(is_guard(book, guard), left == [])
                self.assertEqual(barred(book, *guard) == ((),) * many, left == [])
                found.add(left == [])
                numbers = tuple(sorted({triple[0] for triple in left} | set(guard[0])))
                self.assertIs(is_guard(book, (numbers, *guard[1:])), True)
            self.assertIs(is_guard(book, (tuple(range(many)), (), ())), True)
            self.assertIs(is_guard(book, ((), tuple(range(8)), ())), True)
            self.assertIs(is_guard(book, ((), (), tuple(range(8)))), True)
            self.assertIs(is_guard(book, ((), (), ())), all(plan == () for plan in book))
            self.assertEqual(unguarded(book, (), (), ()), left_by_words(book, (), (), ()))
        self.assertEqual(found, {True, False})

    def test_is_guard_of_any_value(self):
        for guard in (((0, 1), (), ()), ((0,), (1,), (1,)), ((), (0, 1), (0, 7)), ((1,), (), (0, 1))):
            self.assertIs(is_guard(HAND, guard), True)
            for thing in variants(guard):
                with self.subTest(thing=thing):
                    self.assertIs(is_guard(HAND, thing), False)
            for at, most in ((0, 1), (1, 7), (2, 7)):
                for part in not_ascending(most + 1) + [guard[at] + (most + 1,), (most, 0), (0, 0, most)]:
                    self.assertIs(is_guard(HAND, guard[:at] + (part,) + guard[at + 1:]), False)
        for thing in [(), ((0, 1),), ((0, 1), ()), ((0, 1), (), (), ()), {}, ((0, 1), [], ()), ([0, 1], (), ()),
                      [(0, 1), (), ()], {0: (0, 1), 1: (), 2: ()}, (nested("tuple"),) * 3, (nested("list"),) * 3,
                      (nested("dict"),) * 3, ((), (), ())]:
            self.assertIs(is_guard(HAND, thing), False)

    def test_calls(self):
        persons = not_ascending(8)
        bad = [both(NOT_BOOKS, BadBook), both(not_ascending(2), BadNumbers), both(persons, BadPersons),
               both(persons, BadDesks)]
        for part in ((), (1,), (0, 1)):
            check_calls(self, unguarded, NAMES, (HAND, part, (), (1, 7)), bad)
            check_calls(self, unguarded, NAMES, (HAND, (), part, part), bad)
        check_calls(self, is_guard, ["book", "thing"], (HAND, ((0, 1), (), ())), bad[:1])
        check_calls(self, is_guard, ["book", "thing"], (HAND, None), bad[:1])
        check_calls(self, least_guard, ["book"], (HAND,), bad[:1])


if __name__ == "__main__":
    unittest.main()
