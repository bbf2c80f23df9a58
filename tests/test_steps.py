"""Point 56."""

import itertools
import unittest

from pairpicks.errors import BadBook, BadPick, TooMany
from pairpicks.lone import lone_of
from pairpicks.many import picks, picks_many
from pairpicks.steps import is_closed, lot_of, near_picks, way_to
from tests.helper import NOT_BOOKS, ODD, Dice, all_picks, both, check_calls, nested, not_picks_of, variants
from tests.test_many import MORE, THOUSAND, listed

PAIR = (((0, 0), (1, 1)), ((0, 0), (1, 1)))
HAND = PAIR + (((0, 0), (1, 1)),)
FIRST = {0: (0, 0), 1: (1, 1)}
SECOND = {0: (1, 1), 1: (0, 0)}
SQUARE = tuple((k, k) for k in range(8))
NAMES = ["book", "one", "other"]


def is_step(one, other):
    """Whether a step leads from one pick to the other one, as the words tell it."""
    common = [number for number in one if other.get(number) == one[number]]
    return len(one) == len(other) and len(common) == len(one) - 1


def distances(all_of_them, start):
    """How many steps it takes from the start to each pick to which a way leads, by its place in the list."""
    far = {start: 0}
    waiting = [start]
    for at in waiting:
        for near, pick in enumerate(all_of_them):
            if near not in far and is_step(all_of_them[at], pick):
                far[near] = far[at] + 1
                waiting.append(near)
    return far


class Steps(unittest.TestCase):
    def check_way(self, book, one, other, far):
        """Check the way from one pick to the other one, which takes so many steps, or None."""
        way = way_to(book, one, other)
        if far is None:
            self.assertIsNone(way)
            return
        self.assertEqual([way[0], way[-1], len(way)], [one, other, far + 1])
        for ahead, behind in zip(way, way[1:]):
            self.assertTrue(is_step(ahead, behind))
        for pick in way:
            self.assertEqual(list(pick), sorted(pick))
        self.assertEqual(len({id(pick) for pick in way}), len(way))

    def check(self, book, dice, starts=4):
        """Check what is told of some picks of each size, against all picks with as many pairs."""
        found = set()
        everything = all_picks(book)
        for size in range(max(len(pick) for pick in everything) + 1):
            alike = sorted([pick for pick in everything if len(pick) == size], key=listed)
            if len(alike) > 300:
                continue
            for start in dice.part(range(len(alike)), min(starts, len(alike))):
                far = distances(alike, start)
                one = {number: alike[start][number] for number in dice.order(alike[start])}
                near = near_picks(book, one)
                self.assertEqual(near, [pick for pick in alike if is_step(one, pick)])
                self.assertNotIn(one, near)
                lot = lot_of(book, one)
                self.assertEqual(lot, [alike[at] for at in sorted(far)])
                self.assertIs(is_closed(book, lot), True)
                self.assertIs(is_closed(book, tuple(lot)), True)
                for other in [start] + list(dice.part(range(len(alike)), min(starts, len(alike)))):
                    self.check_way(book, one, alike[other], far.get(other))
                    self.assertIs(way_to(book, one, alike[other]) is None, alike[other] not in lot)
                for pick in near + lot:
                    self.assertEqual(list(pick), sorted(pick))
                self.check_damaged(book, lot, alike)
                found.add((size, len(lot) == len(alike), len(lot) == 1))
        return found

    def check_damaged(self, book, lot, alike):
        """Check lots that are like a closed one, but for one pick."""
        for at in (0, len(lot) // 2, len(lot) - 1):
            fewer = lot[:at] + lot[at + 1:]
            self.assertIs(is_closed(book, fewer), False)
            self.assertIs(is_closed(book, fewer[:at] + [lot[at], lot[at]] + fewer[at:]), False)
            self.assertIs(is_closed(book, lot + [lot[at]]), False)
            if lot[at] and len(lot) > 1:
                less = {number: lot[at][number] for number in sorted(lot[at])[1:]}
                self.assertIs(is_closed(book, lot[:at] + [less] + lot[at + 1:]), False)
        if len(lot) > 1:
            self.assertIs(is_closed(book, lot[::-1]), False)
            self.assertIs(is_closed(book, lot[1:] + lot[:1]), False)
        away = [pick for pick in alike if pick not in lot]
        if away:
            more = sorted(lot + away[:1], key=listed)
            alone = len(lot_of(book, away[0])) == 1
            self.assertIs(is_closed(book, more), alone)
            self.assertIs(is_closed(book, sorted(lot + away, key=listed)), True)
            self.assertIs(is_closed(book, away), True)

    def test_by_hand(self):
        self.assertEqual(picks(PAIR, 2), [FIRST, SECOND])
        self.assertEqual([near_picks(PAIR, FIRST), near_picks(PAIR, SECOND)], [[], []])
        self.assertIsNone(way_to(PAIR, FIRST, SECOND))
        self.assertEqual([lot_of(PAIR, FIRST), lot_of(PAIR, SECOND)], [[FIRST], [SECOND]])
        self.assertIs(is_closed(PAIR, [FIRST]), True)
        self.assertIs(is_closed(PAIR, [SECOND]), True)
        self.assertIs(is_closed(PAIR, [FIRST, SECOND]), True)
        self.assertIs(is_closed(PAIR, [SECOND, FIRST]), False)
        self.assertEqual(picks_many(HAND, 2), 6)
        self.assertEqual(len(lot_of(HAND, SECOND)), 6)
        self.assertIs(is_closed(HAND, [FIRST]), False)
        singles = [{0: (0, 0)}, {0: (1, 1)}, {1: (0, 0)}, {1: (1, 1)}]
        self.assertIs(is_closed(PAIR, singles), True)
        # Each of these is a closed lot, but picks of unlike sizes are none together.
        for thing in ([{}, FIRST], [{}, FIRST, SECOND], [{}] + singles, singles[:1] + [FIRST] + singles[1:]):
            self.assertIs(is_closed(PAIR, thing), False)
        way = way_to(HAND, FIRST, SECOND)
        self.assertEqual(len(way), 4)
        self.check_way(HAND, FIRST, SECOND, 3)
        told = [FIRST, {1: (1, 1), 2: (0, 0)}, {0: (1, 1), 2: (0, 0)}, SECOND]
        self.assertTrue(all(is_step(ahead, behind) for ahead, behind in zip(told, told[1:])))

    def test_books_of_all_kinds(self):
        dice = Dice(320)
        found = set()
        for _ in range(60):
            found |= self.check(dice.small_book(6, 14), dice)
            found |= self.check(dice.book(dice.number(2, 4), most=3, among=dice.number(3, 4)), dice)
        # Ways between all picks of a size, between some, and from one pick nowhere, of several sizes.
        self.assertLessEqual({(1, True, False), (2, True, False), (3, False, False), (2, False, True)}, found)
        self.assertIn((0, True, True), found)

    def test_small_books(self):
        dice = Dice(321)
        plans = [(), ((0, 0),), ((0, 1),), ((0, 0), (1, 1)), ((0, 1), (1, 0))]
        for many in (1, 2, 3):
            for book in itertools.product(plans, repeat=many):
                self.check(book, dice, 6)

    def test_no_pair(self):
        for book in (((),), HAND, MORE, ((),) * 16, (SQUARE,) * 16):
            self.assertEqual(near_picks(book, {}), [])
            self.assertIs(is_closed(book, [{}]), True)
            self.assertIs(is_closed(book, [{}, {}]), False)
        self.assertEqual(way_to(HAND, {}, {}), [{}])
        self.assertEqual(lot_of(HAND, {}), [{}])

    def test_books_that_are_not_small(self):
        dice = Dice(322)
        for book in (dice.book(16, most=3, among=4), (SQUARE[:2],) * 16, dice.book(9, most=2)):
            for most in (1, 2):
                pick = dice.pick(book, most)
                alike = sorted([each for each in all_picks(book[:6]) if len(each) == len(pick)], key=listed)
                near = near_picks(book, pick)
                self.assertEqual(near, sorted(near, key=listed))
                self.assertTrue(all(is_step(pick, each) for each in near))
                self.assertLessEqual(len([each for each in alike if is_step(pick, each)]), len(near))
        singles = [{number: pair} for number in range(16) for pair in SQUARE]
        self.assertEqual(near_picks((SQUARE,) * 16, {3: (4, 4)}), [one for one in singles if one != {3: (4, 4)}])
        self.assertIs(is_closed((SQUARE,) * 16, singles), True)
        self.assertIs(is_closed((SQUARE,) * 16, singles[1:]), False)
        full = {number: pair for number, pair in enumerate(SQUARE)}
        self.assertIs(is_closed((SQUARE,) * 8, [full]), True)
        self.assertIs(is_closed((SQUARE,) * 9, [full]), False)

    def test_too_many(self):
        first = picks(THOUSAND, 4)[0]
        last = picks(THOUSAND, 4)[-1]
        self.assertIs(is_closed(THOUSAND, lot_of(THOUSAND, first)), True)
        way = way_to(THOUSAND, first, last)
        self.assertIs(way is None, last not in lot_of(THOUSAND, first))
        pick = {0: (1, 1), 1: (0, 3), 2: (5, 5), 4: (7, 4)}
        self.assertEqual(picks_many(MORE, 4), 1001)
        less = {number: pick[number] for number in (0, 1)}
        for wrong in ({}, less, None, {0: (0, 0)}):
            self.assertRaises(BadPick, way_to, MORE, pick, wrong)
            self.assertRaises(BadPick, way_to, (SQUARE,) * 9, {8: (1, 1), 0: (2, 2)}, wrong)
        for book, one, most in ((MORE, pick, 1000), ((SQUARE[:4],) * 8, {0: (0, 0)}, 28), (((),) * 9, {}, 8)):
            for function, values in ((way_to, (book, one, one)), (lot_of, (book, one))):
                with self.assertRaises(TooMany) as caught:
                    function(*values)
                self.assertEqual(caught.exception.most, most)
        self.assertIs(near_picks(MORE, pick) == [], False)
        self.assertEqual(way_to(MORE, {0: (1, 1)}, {0: (1, 1)}), [{0: (1, 1)}])

    def test_lone_books(self):
        dice = Dice(323)
        for numbers in ((0, 1), (0, 2), (0, 3), (1, 2)):
            self.check(lone_of((0, 1, 2), (2, 0, 1), numbers), dice)

    def test_is_closed_of_any_value(self):
        lot = lot_of(HAND, FIRST)
        for thing in ODD + [[], (), {}, FIRST, {0: FIRST}, [None], [{}, FIRST], [FIRST, {}], [{0: (0, 0)}, FIRST],
                            [[FIRST]], [nested("list")], [nested("dict")], (nested("tuple"),), [listed(FIRST)],
                            [FIRST, nested("dict")], [{0: nested("tuple")}], "lot", 7]:
            with self.subTest(thing=thing):
                self.assertIs(is_closed(HAND, thing), False)
        for at, pick in enumerate(lot):
            for other in variants(pick):
                self.assertIs(is_closed(HAND, lot[:at] + [other] + lot[at + 1:]), False)
        self.assertIs(is_closed(PAIR, [{False: (0, 0), 1: (1, 1)}]), False)
        self.assertIs(is_closed(PAIR, [{0: (0, 0), True: (1, 1)}]), False)
        self.assertIs(is_closed(PAIR, [{0: (0, False), 1: (1, 1)}]), False)
        self.assertIs(is_closed(PAIR, [{1: (1, 1), 0: (0, 0)}]), True)

    def test_calls(self):
        bad = [both(NOT_BOOKS, BadBook), both(not_picks_of(HAND), BadPick)]
        check_calls(self, near_picks, ["book", "pick"], (HAND, FIRST), bad)
        check_calls(self, near_picks, ["book", "pick"], (HAND, {}), bad)
        check_calls(self, lot_of, ["book", "pick"], (HAND, {1: (1, 1), 0: (0, 0)}), bad)
        check_calls(self, is_closed, ["book", "thing"], (HAND, [FIRST]), bad[:1])
        check_calls(self, is_closed, ["book", "thing"], (HAND, lot_of(HAND, FIRST)), bad[:1])
        check_calls(self, is_closed, ["book", "thing"], (HAND, None), bad[:1])
        more = both(not_picks_of(HAND) + [{}, {0: (0, 0)}, {2: (1, 1)}], BadPick)
        check_calls(self, way_to, NAMES, (HAND, FIRST, SECOND), bad + [more])
        check_calls(self, way_to, NAMES, (HAND, FIRST, FIRST), bad + [more])


if __name__ == "__main__":
    unittest.main()
