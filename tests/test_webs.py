"""Point 80."""

import itertools
import unittest

from pairpicks.books import times
from pairpicks.errors import BadBook, BadHues, BadLot, BadWeb, TooMany
from pairpicks.plans import is_book, is_plan
from pairpicks.webs import all_settled, are_hues, hues, is_settled, is_web, load, parted, settled, web_of
from tests.helper import NOT_BOOKS, NOT_LOTS, NOT_PLANS, NOT_WEBS, ODD, Dice, both, check_calls, nested, not_dicts_over

HAND = ((0, 0), (0, 1), (1, 0), (1, 1))
HAND_HUES = {(0, 0): 0, (0, 1): 1, (1, 0): 1, (1, 1): 0}
FULL = tuple(itertools.product(range(8), repeat=2))
NAMES = ["web", "hues", "lot"]


def touch(one, other):
    """Whether two pairs touch."""
    return one != other and (one[0] == other[0] or one[1] == other[1])


def load_by_words(web):
    """The greatest number of pairs that one person, or one desk, has."""
    return max(len([pair for pair in web if pair[at] == number]) for at in (0, 1) for number in range(8))


def are_hues_by_words(web, found):
    """Whether a dict of numbers is hues of the web."""
    if sorted(found) != list(web) or not all(0 <= hue < load_by_words(web) for hue in found.values()):
        return False
    return not any(touch(one, other) and found[one] == found[other] for one in web for other in web)


def beaten(told, other, plan):
    """Whether some pair of the plan beats the other pair, by the words."""
    by_person = any(pair[0] == other[0] and pair != other and told[pair] > told[other] for pair in plan)
    return by_person or any(pair[1] == other[1] and pair != other and told[pair] < told[other] for pair in plan)


def is_settled_by_words(told, lot, plan):
    """Whether a plan of pairs of the lot is settled."""
    return all(pair in plan or beaten(told, pair, plan) for pair in lot)


def plans_of(lot):
    """All plans of pairs of the lot."""
    return [row for size in range(min(len(lot), 8) + 1) for row in itertools.combinations(lot, size)
            if len({p for p, d in row}) == len({d for p, d in row}) == size]


def asked(told, lot, dice):
    """The plan that comes by asking, in a drawn sequence."""
    rows = {person: sorted([pair for pair in lot if pair[0] == person], key=told.get) for person in range(8)}
    at_desk = {}
    while True:
        waiting = [person for person in rows if rows[person] and person not in [pair[0] for pair in at_desk.values()]]
        if not waiting:
            return tuple(sorted(at_desk.values()))
        pair = rows[dice.random.choice(waiting)].pop()
        kept = at_desk.get(pair[1])
        if kept is None or told[pair] < told[kept]:
            at_desk[pair[1]] = pair


def other_hues(web, dice):
    """Hues of the web, drawn: numbers and pairs of persons and desks changed about."""
    persons, desks, numbers = dice.order(range(8)), dice.order(range(8)), dice.order(range(load_by_words(web)))
    turned = {(persons[p], desks[d]): (p, d) for p, d in web}
    found = hues(tuple(sorted(turned)))
    return {turned[pair]: numbers[hue] for pair, hue in dice.random.sample(list(found.items()), len(found))}


class Webs(unittest.TestCase):
    def test_webs_of_books(self):
        dice = Dice(480)
        for many in list(range(1, 17)) * 8:
            book = dice.book(many, most=dice.number(0, 8))
            pairs = tuple(sorted({pair for plan in book for pair in plan}))
            if pairs == ():
                self.assertRaises(BadWeb, web_of, book)
                continue
            web = web_of(book)
            self.assertEqual(web, pairs)
            self.assertEqual(web, tuple(times(book)))
            self.assertIs(is_web(web), True)
            self.assertEqual(load(web), load_by_words(web))
        for many in range(1, 17):
            self.assertRaises(BadWeb, web_of, ((),) * many)

    def test_is_web_of_any_value(self):
        for web in (HAND, FULL, ((7, 7),), FULL[5:9]):
            self.assertIs(is_web(web), True)
            self.assertIs(is_web(list(web)), False)
            self.assertIs(is_web(web[::-1]), len(web) == 1)
            self.assertIs(is_web(web + web[-1:]), False)
        for thing in NOT_WEBS:
            with self.subTest(thing=thing):
                self.assertIs(is_web(thing), False)

    def test_calls(self):
        for web, due in ((HAND, 2), (FULL, 8), (((3, 4),), 1), (((0, 0), (0, 1), (0, 7)), 3), (((2, 5), (4, 5)), 2)):
            self.assertEqual(check_calls(self, load, ["web"], (web,), [both(NOT_WEBS, BadWeb)]), due)
            check_calls(self, hues, ["web"], (web,), [both(NOT_WEBS, BadWeb)])
        check_calls(self, is_web, ["thing"], (HAND,), [])
        check_calls(self, web_of, ["book"], ((HAND[::3], HAND[1:3]),), [both(NOT_BOOKS, BadBook) + [(((),), BadWeb)]])


class Hues(unittest.TestCase):
    def check(self, web, found):
        """Check hues of the web, and its plans by them."""
        self.assertIs(are_hues_by_words(web, found), True)
        self.assertIs(are_hues(web, found), True)
        book = parted(web, found)
        self.assertIs(is_book(book), True)
        self.assertEqual(len(book), load_by_words(web))
        for hue, plan in enumerate(book):
            self.assertEqual(plan, tuple(pair for pair in web if found[pair] == hue))

    def test_any_web(self):
        dice = Dice(481)
        for _ in range(250):
            web = dice.web_up_to(64)
            found = hues(web)
            self.assertEqual(list(found), list(web))
            self.check(web, found)
            self.check(web, other_hues(web, dice))
        for many in range(1, 65):
            web = dice.web(many)
            self.check(web, hues(web))
        for web in (FULL, HAND, FULL[:8], FULL[::8], FULL[:63], FULL[1:], tuple((k, k) for k in range(8))):
            self.check(web, hues(web))

    def test_small_webs(self):
        pairs = list(itertools.product(range(3), repeat=2))
        for size in range(1, 10):
            for web in itertools.combinations(pairs, size):
                self.check(web, hues(web))

    def test_are_hues(self):
        found = set()
        for web in (HAND, ((0, 0), (0, 1), (1, 1)), ((0, 0), (1, 1)), ((2, 0), (2, 3), (2, 4)), ((5, 5),)):
            for numbers in itertools.product(range(-1, 4), repeat=len(web)):
                thing = dict(zip(web, numbers))
                self.assertIs(are_hues(web, thing), are_hues_by_words(web, thing))
                found.add(are_hues(web, thing))
        self.assertEqual(found, {True, False})

    def test_are_hues_of_any_value(self):
        for web in (HAND, FULL[:8], ((0, 1), (1, 0)), ((0, 1), (1, 1), (2, 1), (2, 2))):
            good = hues(web)
            for thing in not_dicts_over(good) + [web, list(good), {**good, web[0]: load(web)}, {**good, web[0]: -1}]:
                with self.subTest(web=web, thing=thing):
                    self.assertIs(are_hues(web, thing), False)
            self.assertIs(are_hues(web, {pair: good[pair] for pair in web[::-1]}), True)
        for pair, odd in (((0, 0), False), ((0, 1), True), ((1, 0), True), ((1, 1), False)):
            self.assertIs(are_hues(HAND, {**HAND_HUES, pair: odd}), False)
            self.assertIs(are_hues(HAND, {**HAND_HUES, pair: 1 - HAND_HUES[pair]}), False)

    def test_calls(self):
        bad = [both(NOT_WEBS, BadWeb), both(not_dicts_over(HAND_HUES), BadHues)]
        check_calls(self, parted, ["web", "hues"], (HAND, HAND_HUES), bad)
        check_calls(self, are_hues, ["web", "thing"], (HAND, HAND_HUES), bad[:1])
        check_calls(self, are_hues, ["web", "thing"], (HAND, None), bad[:1])
        found = hues(HAND)
        found[(0, 0)] = 7
        self.assertEqual(sorted(hues(HAND).values()), [0, 0, 1, 1])


class Settled(unittest.TestCase):
    def check(self, web, told, lot, dice):
        """Check the settled plan of the lot, against drawn askings, and the facts of all settled plans."""
        plan = settled(web, told, lot)
        self.assertIs(is_plan(plan), True)
        self.assertIs(is_settled(web, told, lot, plan), True)
        self.assertIs(is_settled_by_words(told, lot, plan), True)
        for _ in range(3):
            self.assertEqual(asked(told, lot, dice), plan)
        if len(lot) > 12:
            with self.assertRaises(TooMany) as caught:
                all_settled(web, told, lot)
            self.assertEqual(caught.exception.most, 12)
            return None
        due = [row for row in plans_of(lot) if is_settled_by_words(told, lot, row)]
        found = all_settled(web, told, lot)
        self.assertEqual(found, sorted(due))
        self.assertIn(plan, found)
        for other in found:
            self.assertEqual([p for p, d in other], [p for p, d in plan])
            self.assertEqual(sorted(d for p, d in other), sorted(d for p, d in plan))
            for pair, best in zip(other, plan):
                self.assertLessEqual(told[pair], told[best])
        return len(found)

    def test_by_hand(self):
        self.assertEqual(load(HAND), 2)
        self.assertIs(are_hues(HAND, HAND_HUES), True)
        self.assertEqual(settled(HAND, HAND_HUES, HAND), ((0, 1), (1, 0)))
        self.assertEqual(all_settled(HAND, HAND_HUES, HAND), [((0, 0), (1, 1)), ((0, 1), (1, 0))])
        self.assertEqual(all_settled(HAND, HAND_HUES, ()), [()])
        self.assertEqual(settled(HAND, HAND_HUES, ()), ())

    def test_any_lot(self):
        dice = Dice(482)
        found = set()
        for _ in range(250):
            web = dice.web_up_to(64)
            told = other_hues(web, dice)
            for most in (4, 12, 64):
                lot = tuple(sorted(dice.part(web, dice.number(0, min(most, len(web))))))
                found.add(self.check(web, told, lot, dice))
        self.assertLessEqual({None, 1, 2}, found)

    def test_is_settled(self):
        dice = Dice(483)
        for _ in range(80):
            web = dice.web_up_to(9)
            told = other_hues(web, dice)
            lot = tuple(sorted(dice.part(web, dice.number(0, len(web)))))
            for size in range(len(web) + 1):
                for row in itertools.combinations(web, size):
                    due = row in plans_of(lot) and is_settled_by_words(told, lot, row)
                    self.assertIs(is_settled(web, told, lot, row), due)

    def test_too_many(self):
        dice = Dice(484)
        web = FULL[:16]
        told = hues(web)
        self.assertEqual(self.check(web, told, web[:12], dice) > 0, True)
        for lot in (web[:13], web):
            with self.assertRaises(TooMany) as caught:
                all_settled(web, told, lot)
            self.assertEqual(caught.exception.most, 12)
            self.assertRaises(BadLot, all_settled, web, told, lot[::-1])
            self.assertRaises(BadHues, all_settled, web, {}, lot)
            self.assertRaises(BadWeb, all_settled, web[::-1], told, lot)
        self.check(FULL, hues(FULL), FULL, dice)
        self.assertEqual(len(settled(FULL, hues(FULL), FULL)), 8)

    def test_is_settled_of_any_value(self):
        for good in all_settled(HAND, HAND_HUES, HAND):
            for thing in NOT_PLANS + [(), list(good), good[:1], good[1:], good[::-1], good + ((2, 2),), dict(good),
                                      ((2, 3), (3, 2)), nested("dict"), HAND]:
                with self.subTest(thing=thing):
                    self.assertIs(is_settled(HAND, HAND_HUES, HAND, thing), False)
        self.assertIs(is_settled(HAND, HAND_HUES, (), ()), True)
        self.assertIs(is_settled(HAND, HAND_HUES, (), ((0, 0),)), False)
        self.assertIs(is_settled(HAND, HAND_HUES, HAND[:1], ((False, 0),)), False)
        self.assertIs(is_settled(HAND, HAND_HUES, HAND[:1], ((0, 0),)), True)

    def test_calls(self):
        told = {pair: HAND_HUES[pair] for pair in HAND[::-1]}
        lots = NOT_LOTS + [((2, 2),), HAND + ((2, 2),), HAND[::-1], ((0, 0), (0, 0)), ((0, 0), (0, 2))]
        bad = [both(NOT_WEBS, BadWeb), both(not_dicts_over(HAND_HUES), BadHues), both(lots, BadLot)]
        for lot in (HAND, (), HAND[1:2]):
            for function in (settled, all_settled):
                check_calls(self, function, NAMES, (HAND, told, lot), bad)
            for thing in (HAND[::3], None):
                check_calls(self, is_settled, NAMES + ["thing"], (HAND, told, lot, thing), bad)
        for thing in ODD:
            self.assertIs(is_settled(HAND, HAND_HUES, HAND, thing), False)


if __name__ == "__main__":
    unittest.main()
