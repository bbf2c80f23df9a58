"""Point 53."""

import itertools
import unittest

from pairpicks.errors import BadBook, BadNumbers, TooMany
from pairpicks.greatest import greatest
from pairpicks.plans import is_plan
from pairpicks.unions import cover, is_cover, lack, lacking, union_plan, union_size
from tests.helper import NOT_BOOKS, Dice, all_plans, both, check_calls, most_pairs, nested, not_ascending, variants

HAND = (((0, 0), (1, 1)), ((0, 1), (1, 0)))
SQUARE = tuple((k, k) for k in range(8))
NAMES = ["book", "numbers"]


def lots_of(many):
    """All lots of one or more of so many plans, fewer plans first, then ascending."""
    return [lot for size in range(1, many + 1) for lot in itertools.combinations(range(many), size)]


def greatest_plan_by_words(pairs):
    """How many pairs the greatest plan out of these has, by one pair after the other with and without it."""
    if not pairs:
        return 0
    person, desk = pairs[0]
    beside = [pair for pair in pairs if pair[0] != person and pair[1] != desk]
    return max(1 + greatest_plan_by_words(beside), greatest_plan_by_words(pairs[1:]))


def lack_by_words(book):
    """lack, and the first lot for which it comes."""
    best, first = 0, ()
    for lot in lots_of(len(book)):
        pairs = sorted({pair for number in lot for pair in book[number]})
        many = len(lot) - (greatest_plan_by_words(pairs) + 1) // 2
        if many > best:
            best, first = many, lot
    return best, first


class Unions(unittest.TestCase):
    def check(self, book, numbers):
        """Check the union plan and the cover of these plans."""
        pairs = sorted({pair for number in numbers for pair in book[number]})
        plan = union_plan(book, numbers)
        self.assertIs(is_plan(plan), True)
        self.assertLessEqual(set(plan), set(pairs))
        self.assertEqual(union_size(book, numbers), len(plan))
        found = cover(book, numbers)
        self.assertIs(is_cover(book, numbers, found), True)
        persons, desks = found
        self.assertTrue(all(pair[0] in persons or pair[1] in desks for pair in pairs))
        # A plan and a cover of the same size: neither can be any better.
        self.assertEqual(len(persons) + len(desks), len(plan))
        return pairs, len(plan)

    def test_by_hand(self):
        self.assertEqual(union_size(HAND, (0, 1)), 2)
        self.assertEqual(union_plan(HAND, (1,)), HAND[1])
        self.assertEqual([lack(HAND), lacking(HAND)], [1, (0, 1)])
        self.assertEqual(greatest(HAND), 2 - 1)

    def test_small_books(self):
        for many in (1, 2):
            for book in itertools.product(all_plans(3), repeat=many):
                pairs, size = self.check(book, tuple(range(many)))
                self.assertEqual(size, greatest_plan_by_words(pairs))

    def test_books_of_all_kinds(self):
        dice = Dice(290)
        found = set()
        for many in list(range(1, 17)) * 15:
            book = dice.book(many, most=dice.number(1, 8))
            numbers = tuple(sorted(dice.part(range(many), dice.number(1, many))))
            pairs, size = self.check(book, numbers)
            found.add(size)
            if len(pairs) <= 14:
                self.assertEqual(size, greatest_plan_by_words(pairs))
        self.assertEqual(found, set(range(9)))

    def test_pairs_that_give_way(self):
        # The greatest plan comes only if all persons but the last one give up their first desk.
        book = (SQUARE[:7], tuple((k, k + 1) for k in range(7)), ((7, 0),))
        self.assertEqual(union_plan(book, (0, 1, 2)), tuple((k, k + 1) for k in range(7)) + ((7, 0),))
        self.assertEqual(union_size(book, (0, 2)), 7)
        star = (((3, 0),), ((3, 1),), ((3, 2),), ((0, 5),), ((1, 5),), ((2, 5),))
        self.assertEqual(cover(star, tuple(range(6))), ((3,), (5,)))
        self.assertEqual(cover(star, (0, 1, 2)), ((3,), ()))
        self.assertEqual(cover(star, (3, 4, 5)), ((), (5,)))
        self.assertEqual(cover(((), ()), (0, 1)), ((), ()))
        self.assertEqual(union_plan(((), ()), (1,)), ())

    def test_lack(self):
        dice = Dice(291)
        found = set()
        for _ in range(60):
            book = dice.small_book(6, 14)
            most, first = lack_by_words(book)
            self.assertEqual([lack(book), lacking(book)], [most, first])
            self.assertGreaterEqual(greatest(book), len(book) - most)
            found.add(most)
        self.assertLessEqual({0, 1, 2, 3}, found)

    def test_lack_at_the_limits(self):
        dice = Dice(292)
        for _ in range(12):
            book = dice.book(8, least=dice.number(0, 3), most=8)
            most, first = lack(book), lacking(book)
            self.assertEqual(first == (), most == 0)
            lacks = {lot: len(lot) - (union_size(book, lot) + 1) // 2 for lot in lots_of(8)}
            self.assertEqual(most, max([0] + list(lacks.values())))
            if most:
                self.assertEqual(first, [lot for lot in lots_of(8) if lacks[lot] == most][0])
        for many in range(1, 9):
            self.assertEqual([lack(((),) * many), lacking(((),) * many)], [many, tuple(range(many))])
            self.assertEqual(lack((SQUARE,) * many), max(0, many - 4))
            self.assertEqual(lacking((SQUARE,) * many), tuple(range(many)) if many > 4 else ())
            for size in range(1, 9):
                book = (SQUARE[:size],) * many
                self.assertEqual(lack(book), max(0, many - (size + 1) // 2))

    def test_the_first_lot_is_told(self):
        empty, one, full = (), ((0, 0),), SQUARE
        self.assertEqual(lacking((full, empty, full)), (1,))
        self.assertEqual(lacking((empty, one, empty, one)), (0, 1, 2, 3))
        self.assertEqual([lack((empty, one, empty, one)), lack((empty, one, empty))], [3, 2])
        self.assertEqual(lacking((one, empty, empty)), (1, 2))
        self.assertEqual(lacking((one, full, one)), (0, 2))
        self.assertEqual(lacking((one, one, one)), (0, 1, 2))
        # Each two of three such plans lack one, and so do all three.
        alone = (((0, 0),), ((1, 1),), ((2, 2),))
        self.assertEqual([lack(alone), lacking(alone)], [1, (0, 1)])
        self.assertEqual(lacking((full,) + alone), (1, 2))
        self.assertEqual(lacking((((5, 5), (6, 6)), SQUARE, ((5, 6), (6, 5)), SQUARE)), (0, 2))

    def test_a_full_pick(self):
        dice = Dice(293)
        met = set()
        for _ in range(300):
            book = dice.book(dice.number(1, 4), least=1, most=5)
            if all(union_size(book, lot) >= 2 * len(lot) - 1 for lot in lots_of(len(book))):
                self.assertEqual([lack(book), lacking(book)], [0, ()])
                self.assertEqual(most_pairs(book), len(book))
                met.add(len(book))
        self.assertEqual(met, {1, 2, 3, 4})

    def test_is_cover_of_all_pairs_of_tuples(self):
        rows = [row for size in range(4) for row in itertools.combinations(range(3), size)]
        for book in ((((0, 0), (1, 1)), ((0, 1), (1, 0)), ((2, 2),)), (((0, 0), (1, 2)), ((0, 1),), ())):
            for numbers in lots_of(3):
                due = [pair for number in numbers for pair in book[number]]
                for persons, desks in itertools.product(rows, repeat=2):
                    covered = all(pair[0] in persons or pair[1] in desks for pair in due)
                    self.assertIs(is_cover(book, numbers, (persons, desks)), covered)
        self.assertIs(is_cover(HAND, (0, 1), (tuple(range(8)), tuple(range(8)))), True)

    def test_is_cover_of_any_value(self):
        for right in (((0, 1), ()), ((), (0, 1)), ((0, 1), (5, 7)), (tuple(range(8)), ())):
            self.assertIs(is_cover(HAND, (0, 1), right), True)
            for thing in variants(right):
                with self.subTest(thing=thing):
                    self.assertIs(is_cover(HAND, (0, 1), thing), False)
            for at in (0, 1):
                for part in not_ascending(8) + [right[at] + (8,), (7, 0), (0, 1, 1)]:
                    self.assertIs(is_cover(HAND, (0, 1), right[:at] + (part,) + right[at + 1:]), False)
        for thing in [(), ((0, 1),), ((0, 1), (), ()), [(0, 1), ()], {0: (0, 1), 1: ()}, ((0,), (0,)), ((), ()),
                      (nested("tuple"),) * 2, (nested("list"),) * 2, (nested("dict"),) * 2, ((0, 1), [])]:
            with self.subTest(thing=thing):
                self.assertIs(is_cover(HAND, (0, 1), thing), False)
        self.assertIs(is_cover(((), HAND[0]), (0,), ((), ())), True)

    def test_calls(self):
        bad = [both(NOT_BOOKS, BadBook), both(not_ascending(2) + [()], BadNumbers)]
        for numbers in ((0,), (1,), (0, 1)):
            for function in (union_plan, union_size, cover):
                check_calls(self, function, NAMES, (HAND, numbers), bad)
            check_calls(self, is_cover, NAMES + ["thing"], (HAND, numbers, ((0, 1), ())), bad)
            check_calls(self, is_cover, NAMES + ["thing"], (HAND, numbers, None), bad)
        for function in (lack, lacking):
            check_calls(self, function, ["book"], (HAND,), bad[:1])
            with self.assertRaises(TooMany) as caught:
                function(((),) * 9)
            self.assertEqual(caught.exception.most, 8)
        self.check((SQUARE,) * 16, tuple(range(16)))


if __name__ == "__main__":
    unittest.main()
