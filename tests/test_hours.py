"""Point 81, and guarantee (h)."""

import itertools
import unittest

from pairpicks.errors import BadHues, BadMenus, BadPair, BadWeb, TooMany
from pairpicks.hours import are_menus, assigned, choice, choice_tree, is_choice, is_choice_tree, rivals
from pairpicks.webs import hues, load, settled
from tests.helper import NOT_PAIRS, NOT_WEBS, ODD, Dice, both, check_calls, nested, not_dicts_over, variants
from tests.test_webs import FULL, HAND, HAND_HUES, other_hues, touch

PAIR = ((0, 0), (0, 1))
PAIR_MENUS = {(0, 0): (4,), (0, 1): (4,)}
PAIR_TREE = ((0, 0), {4: ((0, 1), {})})
TRIPLE = ((0, 0), (0, 1), (0, 2))
TRIPLE_MENUS = {(0, 0): (3, 5), (0, 1): (0, 1), (0, 2): ()}
HAND_MENUS = {pair: (3, 5) for pair in HAND}


def drawn_menus(dice, web, least, most, hours=10):
    """Menus of the web with so many hours each, its pairs in any sequence."""
    return {pair: tuple(sorted(dice.part(range(hours), dice.number(least, most)))) for pair in dice.order(web)}


def is_choice_by_words(web, menus, found):
    """Whether a dict is a choice."""
    if sorted(found) != list(web) or not all(found[pair] in menus[pair] for pair in web):
        return False
    return not any(touch(one, other) and found[one] == found[other] for one in web for other in web)


def has_choice(web, menus, given=()):
    """Whether there is a choice, all choices gone through."""
    if len(given) == len(web):
        return True
    pair = web[len(given)]
    taken = [hour for other, hour in zip(web, given) if touch(pair, other)]
    return any(has_choice(web, menus, given + (hour,)) for hour in menus[pair] if hour not in taken)


def is_tree_by_words(web, menus, thing, above=()):
    """Whether a thing is a tree of cases, with these pairs and their hours above in the tree."""
    if thing.__class__ is not tuple or len(thing) != 2:
        return False
    pair, branches = thing
    if repr(pair) not in [repr(each) for each in web if each not in [other for other, hour in above]]:
        return False
    taken = [hour for other, hour in above if touch(pair, other)]
    due = sorted(repr(hour) for hour in menus[pair] if hour not in taken)
    if branches.__class__ is not dict or sorted(repr(hour) for hour in branches) != due:
        return False
    return all(is_tree_by_words(web, menus, branches[hour], above + ((pair, hour),)) for hour in branches)


def assigned_by_words(web, told, menus):
    """The hours that come hour by hour."""
    found = {}
    for hour in range(10):
        lot = tuple(pair for pair in web if pair not in found and hour in menus[pair])
        for pair in settled(web, told, lot):
            found[pair] = hour
    return found


def tree_in_order(web, menus, order, above=()):
    """The tree of cases that goes through the pairs in this order."""
    pair = order[0]
    taken = [hour for other, hour in above if touch(pair, other)]
    return pair, {hour: tree_in_order(web, menus, order[1:], above + ((pair, hour),))
                  for hour in menus[pair] if hour not in taken}


def dicts_in(thing):
    """All dicts of a tree."""
    return [thing[1]] + [found for hour in thing[1] for found in dicts_in(thing[1][hour])]


class Menus(unittest.TestCase):
    def test_are_menus(self):
        dice = Dice(490)
        for _ in range(100):
            web = dice.web_up_to(64)
            self.assertIs(are_menus(web, drawn_menus(dice, web, 0, 10)), True)
        self.assertIs(are_menus(PAIR, {(0, 0): (), (0, 1): tuple(range(10))}), True)

    def test_are_menus_of_any_value(self):
        for web, good in ((PAIR, PAIR_MENUS), (HAND, HAND_MENUS), (TRIPLE, TRIPLE_MENUS)):
            self.assertIs(are_menus(web, {pair: good[pair] for pair in web[::-1]}), True)
            for thing in not_dicts_over(good) + [web, list(good)]:
                with self.subTest(web=web, thing=thing):
                    self.assertIs(are_menus(web, thing), False)
            for menu in ([4], (10,), (-1,), (0, 10), (5, 3), (3, 3), (3, True), (True,), (False, 3), (3, None), ("3",),
                         ((3,),), {3: 3}, "3", 3, None, (999999999,), (0, nested("tuple"))):
                for pair in web:
                    self.assertIs(are_menus(web, {**good, pair: menu}), False)

    def test_is_choice(self):
        found = set()
        for web, menus in ((HAND, HAND_MENUS), (PAIR, {(0, 0): (0, 1), (0, 1): (1, 2)}), (PAIR, PAIR_MENUS),
                           (((0, 0), (1, 1)), {(0, 0): (1,), (1, 1): (1, 9)})):
            for hours in itertools.product((0, 1, 2, 3, 4, 5, 9), repeat=len(web)):
                thing = dict(zip(web, hours))
                self.assertIs(is_choice(web, menus, thing), is_choice_by_words(web, menus, thing))
                found.add(is_choice(web, menus, thing))
        self.assertEqual(found, {True, False})

    def test_is_choice_of_any_value(self):
        menus = {(0, 0): (0, 1), (0, 1): (1, 2), (1, 1): (0,)}
        web = tuple(menus)
        good = {(0, 0): 0, (0, 1): 1, (1, 1): 0}
        self.assertIs(is_choice(web, menus, good), True)
        self.assertIs(is_choice(web, menus, {pair: good[pair] for pair in web[::-1]}), True)
        for thing in not_dicts_over(good) + [menus, web, {**good, (0, 0): 1}, {**good, (0, 1): 0}, {**good, (1, 1): 2}]:
            with self.subTest(thing=thing):
                self.assertIs(is_choice(web, menus, thing), False)
        for pair, odd in (((0, 0), False), ((0, 1), True), ((1, 1), False)):
            self.assertIs(is_choice(web, menus, {**good, pair: odd}), False)


class Assigned(unittest.TestCase):
    def test_by_hand(self):
        self.assertEqual(assigned(HAND, HAND_HUES, HAND_MENUS), {(0, 0): 5, (0, 1): 3, (1, 0): 3, (1, 1): 5})
        self.assertEqual([rivals(HAND, HAND_HUES, pair) for pair in HAND], [1, 1, 1, 1])

    def test_any_menus(self):
        dice = Dice(491)
        for _ in range(120):
            web = dice.web_up_to(40)
            told = other_hues(web, dice)
            menus = drawn_menus(dice, web, 0, dice.number(1, 10))
            found = assigned(web, told, menus)
            self.assertEqual(found, assigned_by_words(web, told, menus))
            self.assertEqual(list(found), sorted(found))
            for one, hour in found.items():
                self.assertIn(hour, menus[one])
                self.assertFalse(any(touch(one, other) and found[other] == hour for other in found))

    def test_as_many_hours_as_the_load(self):
        dice = Dice(492)
        for _ in range(150):
            web = dice.web_up_to(64)
            told = other_hues(web, dice)
            menus = drawn_menus(dice, web, load(web), load(web), dice.number(load(web), 10))
            found = assigned(web, told, menus)
            self.assertIs(is_choice(web, menus, found), True)
            self.assertIs(is_choice_by_words(web, menus, found), True)
        menus = {pair: tuple(range(8)) for pair in FULL}
        self.assertIs(is_choice(FULL, menus, assigned(FULL, hues(FULL), menus)), True)

    def test_more_hours_than_rivals(self):
        dice = Dice(493)
        for _ in range(150):
            web = dice.web_up_to(64)
            told = other_hues(web, dice)
            menus = {}
            for pair in web:
                many = rivals(web, told, pair)
                due = [other for other in web if other[0] == pair[0] and told[other] > told[pair]]
                due += [other for other in web if other[1] == pair[1] and told[other] < told[pair]]
                self.assertEqual(many, len(due))
                self.assertLess(many, load(web))
                menus[pair] = tuple(sorted(dice.part(range(10), many + 1)))
            found = assigned(web, told, menus)
            self.assertIs(is_choice(web, menus, found), True)
            self.assertIs(is_choice_by_words(web, menus, found), True)


class Choices(unittest.TestCase):
    def check(self, web, menus):
        """Check the choice or the tree of cases of a web with at most eight pairs; return whether there is a choice."""
        found, shown = choice(web, menus), choice_tree(web, menus)
        due = has_choice(web, menus)
        self.assertIs(found is None, not due)
        self.assertIs(shown is None, due)
        if due:
            self.assertIs(is_choice(web, menus, found), True)
            self.assertIs(is_choice_by_words(web, menus, found), True)
            self.assertEqual(list(found), list(web))
        else:
            self.assertIs(is_choice_tree(web, menus, shown), True)
            self.assertIs(is_tree_by_words(web, menus, shown), True)
            dicts = dicts_in(shown)
            self.assertEqual(len({id(each) for each in dicts}), len(dicts))
            for each in dicts:
                self.assertEqual(list(each), sorted(each))
        again = {pair: menus[pair] for pair in sorted(menus, reverse=True)}
        self.assertEqual([choice(web, again), choice_tree(web, again)], [found, shown])
        return due

    def test_by_hand(self):
        self.assertIs(is_choice_tree(PAIR, PAIR_MENUS, PAIR_TREE), True)
        self.assertIs(self.check(PAIR, PAIR_MENUS), False)
        self.assertIs(self.check(HAND, HAND_MENUS), True)

    def test_drawn_menus(self):
        dice = Dice(494)
        found = set()
        for _ in range(400):
            web = dice.web_up_to(8)
            most = dice.number(1, 3)
            menus = drawn_menus(dice, web, dice.number(0, most), most, dice.number(3, 10))
            found.add((len(web), self.check(web, menus)))
        self.assertLessEqual({(many, some) for many in range(2, 9) for some in (True, False)}, found)

    def test_few_hours(self):
        for web in (PAIR, HAND, ((0, 0), (0, 1), (1, 1)), ((0, 0), (1, 1), (2, 2)), TRIPLE):
            rows = [row for size in range(3) for row in itertools.combinations(range(3), size)]
            for menus in itertools.product(rows, repeat=len(web)):
                self.check(web, dict(zip(web, menus)))

    def test_nine_and_ten_pairs(self):
        dice = Dice(495)
        found = set()
        for _ in range(150):
            among = dice.number(4, 6)
            web = dice.web(dice.number(9, 10), among)
            menus = drawn_menus(dice, web, 1, dice.number(1, 3), dice.number(3, 10))
            some = choice(web, menus)
            self.assertIs(some is not None, has_choice(web, menus))
            if some is not None:
                self.assertIs(is_choice_by_words(web, menus, some), True)
            found.add(some is None)
        self.assertEqual(found, {True, False})

    def test_one_hour_too_few(self):
        # All pairs of a person touch: of one hour fewer than pairs there is no choice.
        for many in range(1, 9):
            web = FULL[:many]
            self.assertIs(self.check(web, {pair: tuple(range(many - 1)) for pair in web}), False)
            self.assertIs(self.check(web, {pair: tuple(range(many)) for pair in web}), True)
        web = FULL[:8] + ((6, 0), (7, 0))
        menus = {pair: tuple(range(7)) for pair in web}
        self.assertIsNone(choice(web, menus))
        self.assertIs(is_choice(web, {**menus, (0, 7): (7,)}, choice(web, {**menus, (0, 7): (7,)})), True)

    def test_too_many(self):
        menus = {pair: (0, 1, 2, 3, 4, 5, 6, 7) for pair in FULL}
        for many in range(1, 65):
            web = FULL[:many]
            good = {pair: menus[pair] for pair in web}
            for function, most in ((choice, 10), (choice_tree, 8)):
                if many <= most:
                    function(web, good)
                else:
                    with self.assertRaises(TooMany) as caught:
                        function(web, good)
                    self.assertEqual(caught.exception.most, most)
                    self.assertRaises(BadMenus, function, web, {**good, (0, 0): (10,)})
                    self.assertRaises(BadWeb, function, web[::-1], good)


class Trees(unittest.TestCase):
    def test_other_trees(self):
        dice = Dice(496)
        seen = 0
        for _ in range(200):
            web = dice.web_up_to(6)
            menus = drawn_menus(dice, web, 0, 2, 3)
            if has_choice(web, menus):
                continue
            order = dice.order(web)
            try:
                thing = tree_in_order(web, menus, order)
            except IndexError:
                self.fail("there is a choice")
            self.assertIs(is_choice_tree(web, menus, thing), True)
            self.assertIs(is_tree_by_words(web, menus, thing), True)
            for other in self.damaged(thing, web):
                due = is_tree_by_words(web, menus, other)
                self.assertIs(is_choice_tree(web, menus, other), due)
                seen += not due
        self.assertGreater(seen, 500)

    def damaged(self, thing, web):
        """Trees like this one, but for one part."""
        pair, branches = thing
        found = [(other, branches) for other in web] + [(pair, {**branches, hour: thing}) for hour in range(10)]
        found += [(pair, {hour: branches[hour] for hour in branches if hour != gone}) for gone in branches]
        for hour in branches:
            found += [(pair, {**branches, hour: other}) for other in self.damaged(branches[hour], web)]
        return found + [(pair, {}), (pair,), thing + ({},), (pair, None), (None, branches), [pair, branches]]

    def test_is_choice_tree_of_any_value(self):
        for web, menus, good in ((PAIR, PAIR_MENUS, PAIR_TREE), (TRIPLE, TRIPLE_MENUS, ((0, 2), {})),
                                 (TRIPLE, TRIPLE_MENUS, ((0, 1), {1: ((0, 2), {}), 0: ((0, 2), {})}))):
            self.assertIs(is_choice_tree(web, menus, good), True)
            for thing in variants(good):
                with self.subTest(thing=thing):
                    self.assertIs(is_choice_tree(web, menus, thing), is_tree_by_words(web, menus, thing))
        for thing in ODD + [(), {}, 0, PAIR, ((0, 0), {}), ((0, 0), {4: ((0, 0), {})}), ((0, 0), {4: None}),
                            ((0, 0), {4: ((0, 1), {4: ((0, 1), {})})}), ((0, 0), {5: ((0, 1), {})}),
                            ((0, 0), {4: ((0, 1), {}), 5: ((0, 1), {})}), ((0, 0), ((4, ((0, 1), {})),)),
                            [(0, 0), {4: ((0, 1), {})}], ((0, 0), {4: [(0, 1), {}]}), ([0, 0], {4: ((0, 1), {})}),
                            ((1, 1), {4: ((0, 1), {})}), (nested("tuple"), {4: ((0, 1), {})}), ((0, 0), nested("dict")),
                            ((0, 0), {4: nested("tuple")}), ((0, 0), {4: ((0, True), {})}),
                            ((False, 0), {4: ((0, 1), {})}), ((0, 0), {"4": ((0, 1), {})}),
                            ((0, 0), {None: PAIR_TREE})]:
            self.assertIs(is_choice_tree(PAIR, PAIR_MENUS, thing), False)
        ones = {(0, 0): (1,), (0, 1): (0, 1), (0, 2): (0, 1)}
        good = ((0, 0), {1: ((0, 1), {0: ((0, 2), {})})})
        self.assertIs(is_choice_tree(TRIPLE, ones, good), True)
        self.assertIs(is_choice_tree(TRIPLE, ones, ((0, 0), {True: good[1][1]})), False)
        self.assertIs(is_choice_tree(TRIPLE, ones, ((0, 0), {1: ((0, 1), {False: ((0, 2), {})})})), False)

    def test_large_webs(self):
        menus = {pair: () for pair in FULL}
        self.assertIs(is_choice_tree(FULL, menus, ((7, 7), {})), True)
        menus[(7, 7)] = (9,)
        self.assertIs(is_choice_tree(FULL, menus, ((7, 7), {})), False)
        self.assertIs(is_choice_tree(FULL, menus, ((7, 7), {9: ((0, 0), {})})), True)
        # Pairs with one hour each, of which just the last three touch, one the other.
        row = tuple((k, k) for k in range(7)) + ((7, 6), (7, 7))
        menus = {pair: (0,) for pair in row}
        thing = ((7, 6), {})
        for pair in row[:7][::-1]:
            thing = (pair, {0: thing})
        self.assertIs(is_choice_tree(row, menus, thing), True)
        self.assertIs(is_choice_tree(row, menus, thing[1][0]), True)
        self.assertIs(is_choice_tree(row, menus, ((0, 0), {0: thing})), False)


class Calls(unittest.TestCase):
    def test_calls(self):
        webs = both(NOT_WEBS, BadWeb)
        told = {pair: HAND_HUES[pair] for pair in HAND[::-1]}
        menus = {pair: HAND_MENUS[pair] for pair in HAND[::-1]}
        hues_rows = both(not_dicts_over(HAND_HUES), BadHues)
        wrong = not_dicts_over(HAND_MENUS) + [{**HAND_MENUS, (0, 0): menu} for menu in ([3], (10,), (5, 3), (True,))]
        menus_rows = both(wrong, BadMenus)
        check_calls(self, assigned, ["web", "hues", "menus"], (HAND, told, menus), [webs, hues_rows, menus_rows])
        pairs = both(NOT_PAIRS + [(2, 2), (0, 2), (True, 0), (1, False)], BadPair)
        check_calls(self, rivals, ["web", "hues", "pair"], (HAND, told, (1, 0)), [webs, hues_rows, pairs])
        for function in (choice, choice_tree):
            check_calls(self, function, ["web", "menus"], (HAND, menus), [webs, menus_rows])
            check_calls(self, function, ["web", "menus"], (HAND, {**menus, (0, 0): ()}), [webs, menus_rows])
        for thing in (choice(HAND, menus), None, PAIR_TREE):
            for function in (is_choice, is_choice_tree):
                check_calls(self, function, ["web", "menus", "thing"], (HAND, menus, thing), [webs, menus_rows])
        check_calls(self, are_menus, ["web", "thing"], (HAND, menus), [webs])
        check_calls(self, are_menus, ["web", "thing"], (HAND, None), [webs])


if __name__ == "__main__":
    unittest.main()
