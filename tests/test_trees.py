"""Point 52."""

import itertools
import unittest

from pairpicks.errors import BadBook, BadGoal, TooMany
from pairpicks.greatest import greatest
from pairpicks.lone import lone_of
from pairpicks.trees import is_tree, tree
from tests.helper import NOT_BOOKS, NOT_GOALS, Dice, all_picks, all_plans, both, check_calls, nested, variants

HAND = (((0, 0), (1, 1)), ((0, 1), (1, 0)))
NOTHING = ("guard", (), (), ())
HAND_TREE = ("plan", 0, {(0, 0): NOTHING, (1, 1): NOTHING, None: ("guard", (1,), (), ())})


def is_row(thing, most):
    """Whether a thing is an ascending tuple of unlike numbers from 0 to most."""
    if thing.__class__ is not tuple or any(item.__class__ is not int for item in thing):
        return False
    return list(thing) == sorted(set(thing)) and all(0 <= item <= most for item in thing)


def is_tree_by_words(book, goal, thing, taken=(), left=None):
    """Whether a thing is a tree of cases, as the words tell it, with these taken pairs and these plans left."""
    left = list(range(len(book))) if left is None else left
    if thing.__class__ is not tuple or thing == ():
        return False
    free = [(number, pair) for number in left for pair in book[number]
            if not any(pair[0] == other[0] or pair[1] == other[1] for other in taken)]
    if thing[0] == "guard" and len(thing) == 4:
        rows = all(is_row(row, most) for row, most in zip(thing[1:], (len(book) - 1, 7, 7)))
        if not rows or sum(len(row) for row in thing[1:]) >= goal - len(taken):
            return False
        return all(number in thing[1] or pair[0] in thing[2] or pair[1] in thing[3] for number, pair in free)
    if thing[0] == "plan" and len(thing) == 3:
        _, at, branches = thing
        if at.__class__ is not int or at not in left or branches.__class__ is not dict:
            return False
        if [repr(key) for key in branches if key is None or key.__class__ is not tuple] != ["None"]:
            return False
        due = sorted(repr(pair) for number, pair in free if number == at)
        if sorted(repr(key) for key in branches if key is not None) != due:
            return False
        rest = [number for number in left if number != at]
        return all(is_tree_by_words(book, goal, branches[key], taken if key is None else taken + (key,), rest)
                   for key in branches)
    return False


def dicts_in(thing):
    """All dicts of a tree."""
    if thing[0] == "guard":
        return []
    return [thing[2]] + [found for branch in thing[2].values() for found in dicts_in(branch)]


def long_tree(book, order, taken):
    """The tree of cases that goes through all plans in this order, without a guard ahead of its ends."""
    if order == ():
        return NOTHING
    branches = {}
    for pair in book[order[0]]:
        if not any(pair[0] == other[0] or pair[1] == other[1] for other in taken):
            branches[pair] = long_tree(book, order[1:], taken + (pair,))
    branches[None] = long_tree(book, order[1:], taken)
    return "plan", order[0], branches


def damaged(thing):
    """Trees like this one, but for one node, that has a branch too few or too many, or one under a wrong key.

    The book has no person 7.
    """
    if thing[0] == "guard":
        return []
    _, number, branches = thing
    found = [("plan", number, {key: branches[key] for key in branches if key != gone}) for gone in branches]
    some = branches[None]
    found += [("plan", number, {**branches, key: some}) for key in ((7, 7), (7, 0), 0, "None", (), (0,), (None, None))]
    for key in branches:
        without = {other: branches[other] for other in branches if other != key}
        found += [("plan", number, {**without, wrong: branches[key]}) for wrong in ((7, 6), False, "key")]
        found += [("plan", number, {**branches, key: wrong}) for wrong in damaged(branches[key])]
    return found


class Trees(unittest.TestCase):
    def check(self, book):
        """Check for each goal that there is a tree or a pick, never both."""
        most = greatest(book)
        for goal in range(1, 10):
            found = tree(book, goal)
            self.assertIs(found is None, goal <= most)
            if found is not None:
                self.assertIs(is_tree(book, goal, found), True)
                self.assertIs(is_tree_by_words(book, goal, found), True)
                if goal > 1:
                    self.assertEqual(is_tree(book, goal - 1, found), is_tree_by_words(book, goal - 1, found))
                if goal < 9:
                    self.assertIs(is_tree(book, goal + 1, found), True)
                dicts = dicts_in(found)
                self.assertEqual(len({id(each) for each in dicts}), len(dicts))
                for each in dicts:
                    self.assertEqual(list(each), sorted(key for key in each if key is not None) + [None])
        return most

    def test_by_hand(self):
        self.assertIsNone(tree(HAND, 1))
        self.assertIs(is_tree(HAND, 2, HAND_TREE), True)
        self.assertIs(is_tree(HAND, 2, tree(HAND, 2)), True)
        self.assertIs(is_tree(HAND, 1, HAND_TREE), False)
        self.assertIs(is_tree(HAND, 3, ("guard", (0, 1), (), ())), True)
        for at, many in ((1, 2), (2, 8), (3, 8)):
            for member in range(many):
                guard = ["guard", (), (), ()]
                guard[at] = (member,)
                self.assertIs(is_tree(HAND, 2, tuple(guard)), False)

    def test_small_books_and_all_goals(self):
        for many in (1, 2, 3):
            for book in itertools.product(all_plans(2), repeat=many):
                self.check(book)

    def test_books_of_all_kinds(self):
        dice = Dice(280)
        found = set()
        for _ in range(150):
            book = dice.small_book(6, 16)
            self.assertEqual(self.check(book), max(len(pick) for pick in all_picks(book)))
            found.add(greatest(book))
        self.assertLessEqual({0, 1, 2, 3, 4, 5}, found)
        for _ in range(60):
            self.check(dice.small_book())

    def test_books_without_a_guard_of_so_few(self):
        rings = ()
        for k in range(4):
            a, b = 2 * k, 2 * k + 1
            rings += (((a, a), (b, b)), ((a, b), (b, a)))
            self.check(rings)
        for persons, numbers in (((0, 1), (0,)), ((0, 1, 2), (0, 3)), ((3, 1, 0, 5), (0, 2, 4))):
            book = lone_of(persons, tuple(range(len(persons))), numbers)
            self.assertEqual(self.check(book), len(persons) - 1)
            self.assertNotEqual(tree(book, len(persons))[0], "guard")
        for many in range(1, 9):
            self.check(((),) * many)

    def test_no_tree_shows_what_is_not_so(self):
        # Whatever is built of a right tree, it is none where there is a pick.
        book = HAND + (((2, 2),),)
        for goal in range(1, 10):
            for thing in (HAND_TREE, NOTHING, ("guard", (0, 1, 2), (), ()), ("guard", (2,), (0, 1), ()),
                          ("plan", 2, {(2, 2): HAND_TREE, None: HAND_TREE})):
                self.assertIs(is_tree(book, goal, thing), is_tree_by_words(book, goal, thing))
                if goal <= 2:
                    self.assertIs(is_tree(book, goal, thing), False)
        self.assertIs(is_tree(book, 3, ("plan", 2, {(2, 2): HAND_TREE, None: ("guard", (0, 1), (), ())})), True)

    def test_empty_plans_have_one_branch(self):
        book = ((),) + HAND
        inner = ("plan", 1, {(0, 0): NOTHING, (1, 1): NOTHING, None: ("guard", (2,), (), ())})
        self.assertIs(is_tree(book, 2, ("plan", 0, {None: inner})), True)
        self.assertIs(is_tree(book, 2, ("plan", 0, {})), False)
        self.assertIs(is_tree(book, 2, ("plan", 0, {None: ("plan", 0, {None: inner})})), False)
        # Behind a taken pair a plan may have no free pair left.
        deep = ("plan", 2, {None: NOTHING})
        branches = {(0, 0): deep, (1, 1): deep, None: ("guard", (), (), (0, 1))}
        self.assertIs(is_tree(book, 3, ("plan", 1, branches)), True)
        self.assertIs(is_tree(book, 2, ("plan", 1, branches)), False)
        self.assertIs(is_tree(book, 2, ("plan", 1, {**branches, None: ("guard", (2,), (), ())})), True)

    def test_numbers_of_no_plan(self):
        guard = ("guard", (0, 1), (), ())
        self.assertIs(is_tree(HAND, 3, guard), True)
        for number in (-2, -1, 2, 3, 15, 16, 999999999, True, None, "0", (0,)):
            self.assertIs(is_tree(HAND, 3, ("plan", number, {None: guard})), False)
            self.assertIs(is_tree(((), ()), 3, ("plan", number, {None: guard})), False)
        self.assertIs(is_tree(((), ()), 3, ("plan", 1, {None: guard})), True)

    def test_a_guard_may_name_plans_that_are_not_left(self):
        branches = {(0, 0): NOTHING, (1, 1): NOTHING, None: ("guard", (0, 1), (), ())}
        self.assertIs(is_tree(HAND, 2, ("plan", 0, branches)), False)
        self.assertIs(is_tree(HAND, 3, ("plan", 0, branches)), True)
        self.assertIs(is_tree(HAND, 3, ("plan", 0, {**branches, (0, 0): ("guard", (0,), (), ())})), True)
        self.assertIs(is_tree(HAND, 2, ("plan", 0, {**HAND_TREE[2], (0, 0): ("guard", (0,), (), ())})), False)

    def test_a_guard_that_leaves_a_free_pair(self):
        for guard, due in ((((0,), (), ()), False), (((), (0,), ()), False), (((), (), (1,)), False),
                           (((1,), (), ()), True), (((), (), (0, 1)), False)):
            branches = {**HAND_TREE[2], None: ("guard", *guard)}
            self.assertIs(is_tree(HAND, 2, ("plan", 0, branches)), due)

    def test_books_that_are_not_small(self):
        square = tuple((k, k) for k in range(8))
        self.assertIs(is_tree((square,) * 16, 9, ("guard", (), tuple(range(8)), ())), True)
        self.assertIs(is_tree((square,) * 16, 8, ("guard", (), tuple(range(8)), ())), False)
        self.assertIs(is_tree(((),) * 16, 1, NOTHING), True)
        deep = NOTHING
        for number in range(16):
            deep = ("plan", number, {None: deep})
        self.assertIs(is_tree(((),) * 16, 1, deep), True)
        self.assertIs(is_tree(((),) * 15, 1, deep), False)
        for number in range(16):
            self.assertIs(is_tree(((),) * 16, 1, ("plan", number, {None: deep})), False)
        self.assertEqual(tree((square, square, square, square[:4]), 5)[0], "guard")
        with self.assertRaises(TooMany) as caught:
            tree(((),) * 9, 1)
        self.assertEqual(caught.exception.most, 8)
        with self.assertRaises(TooMany) as caught:
            tree((square,) * 4, 9)
        self.assertEqual(caught.exception.most, 28)
        for book in (((),) * 9, (square,) * 4):
            self.assertRaises(BadGoal, tree, book, 0)

    def test_damaged_trees(self):
        dice = Dice(281)
        found = 0
        for _ in range(40):
            book = dice.book(dice.number(1, 3), most=2, among=4)
            goal = greatest(book) + 1
            for right in (tree(book, goal), long_tree(book, dice.order(range(len(book))), ())):
                self.assertIs(is_tree(book, goal, right), True)
                self.assertIs(is_tree_by_words(book, goal, right), True)
                for thing in damaged(right):
                    found += 1
                    self.assertIs(is_tree_by_words(book, goal, thing), False)
                    self.assertIs(is_tree(book, goal, thing), False)
        self.assertGreater(found, 500)

    def test_any_value(self):
        ring = (((1, 1), (2, 2)), ((1, 2), (2, 1)), ((4, 4),))
        for book, goal in ((HAND, 2), (ring, 3)):
            right = tree(book, goal)
            for thing in variants(right):
                with self.subTest(thing=thing):
                    self.assertIs(is_tree(book, goal, thing), False)
        for thing in [(), ("guard",), ("plan",), ("guard", (0,)), ("guard", (0, 1), ()), ("guard", (0, 1), (), (), ()),
                      ("plan", 0), ("plan", 0, {}), ("plan", 0, {None: None}), HAND_TREE + (1,), list(HAND_TREE),
                      ("plan", 0, list(HAND_TREE[2].items())), ("plan", True, HAND_TREE[2]), ("plan", 2, HAND_TREE[2]),
                      ("plan", -2, HAND_TREE[2]), ("plan", False, HAND_TREE[2]), {0: "guard", 1: (), 2: (), 3: ()},
                      ("plan", nested("tuple"), nested("dict")), ("guard", *[nested("tuple")] * 3),
                      ("guard", *[nested("list")] * 3), ("plan", 0, nested("dict")),
                      ("plan", 0, {None: nested("tuple")}), (nested("tuple"), 0, {}), ("guard", [], [], []),
                      ("branch", 0, HAND_TREE[2])]:
            with self.subTest(thing=thing):
                self.assertIs(is_tree(HAND, 2, thing), False)

    def test_true_is_not_one(self):
        self.assertIs(is_tree(HAND, 2, ("plan", 0, {(0, 0): NOTHING, (True, 1): NOTHING,
                                                    None: ("guard", (1,), (), ())})), False)
        self.assertIs(is_tree(HAND, 2, ("plan", 0, {(False, 0): NOTHING, (1, 1): NOTHING,
                                                    None: ("guard", (1,), (), ())})), False)
        self.assertIs(is_tree(HAND, 2, ("plan", 0, {**HAND_TREE[2], None: ("guard", (True,), (), ())})), False)

    def test_the_sequence_of_the_keys_has_no_meaning(self):
        branches = {key: HAND_TREE[2][key] for key in (None, (1, 1), (0, 0))}
        self.assertIs(is_tree(HAND, 2, ("plan", 0, branches)), True)

    def test_calls(self):
        bad = [both(NOT_BOOKS, BadBook), both(NOT_GOALS, BadGoal)]
        for goal in (1, 2, 9):
            check_calls(self, tree, ["book", "goal"], (HAND, goal), bad)
            check_calls(self, is_tree, ["book", "goal", "thing"], (HAND, goal, HAND_TREE), bad)
            check_calls(self, is_tree, ["book", "goal", "thing"], (HAND, goal, None), bad)


if __name__ == "__main__":
    unittest.main()
