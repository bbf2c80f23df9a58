"""Point 10."""

import itertools
import unittest

from pairpicks.errors import BadPlan
from pairpicks.plans import desks_of, is_book, is_plan, met, persons_of, turned
from tests.helper import NOT_BOOKS, NOT_PLANS, ODD, Dice, both, check_calls

FULL = tuple((person, 7 - person) for person in range(8))


class Plans(unittest.TestCase):
    def test_by_hand(self):
        self.assertIs(is_plan(((0, 2), (1, 0))), True)
        self.assertEqual(turned(((0, 2), (1, 0))), ((0, 1), (2, 0)))
        self.assertIs(is_plan(((1, 0), (0, 2))), False)
        self.assertIs(is_plan(((0, 2), (1, 2))), False)

    def test_is_plan(self):
        for plan in ((), ((0, 0),), ((7, 7),), ((0, 7), (7, 0)), FULL, ((3, 1), (4, 0), (6, 7))):
            self.assertIs(is_plan(plan), True)
            self.assertIs(is_plan(thing=plan), True)
        for thing in NOT_PLANS:
            with self.subTest(thing=thing):
                self.assertIs(is_plan(thing), False)

    def test_is_plan_of_all_tuples_of_two_pairs(self):
        pairs = list(itertools.product(range(3), repeat=2))
        for one, other in itertools.product(pairs, repeat=2):
            due = one[0] < other[0] and one[1] != other[1]
            self.assertIs(is_plan((one, other)), due)

    def test_persons_and_desks(self):
        self.assertEqual(persons_of(()), ())
        self.assertEqual(desks_of(()), ())
        self.assertEqual(persons_of(((1, 7), (3, 0), (7, 4))), (1, 3, 7))
        self.assertEqual(desks_of(((1, 7), (3, 0), (7, 4))), (0, 4, 7))
        self.assertEqual(persons_of(FULL), tuple(range(8)))
        self.assertEqual(desks_of(FULL), tuple(range(8)))

    def test_turned(self):
        dice = Dice(10)
        self.assertEqual(turned(()), ())
        self.assertEqual(turned(((1, 7), (3, 0), (7, 4))), ((0, 3), (4, 7), (7, 1)))
        for size in range(9):
            plan = dice.plan(size)
            self.assertIs(is_plan(turned(plan)), True)
            self.assertEqual(turned(turned(plan)), plan)
            self.assertEqual(persons_of(turned(plan)), desks_of(plan))
            self.assertEqual(set(turned(plan)), {(desk, person) for person, desk in plan})

    def test_met(self):
        self.assertEqual(met(((0, 0), (1, 1)), ((0, 1), (1, 0))), ())
        self.assertEqual(met(((0, 0), (1, 1), (2, 3)), ((0, 0), (1, 2), (2, 3), (4, 4))), ((0, 0), (2, 3)))
        self.assertEqual(met(FULL, FULL), FULL)
        self.assertEqual(met((), FULL), ())
        dice = Dice(11)
        for _ in range(50):
            one, other = dice.plan(dice.number(0, 4), 4), dice.plan(dice.number(0, 4), 4)
            self.assertEqual(met(one, other), tuple(sorted(set(one) & set(other))))

    def test_calls(self):
        for function in (persons_of, desks_of, turned):
            check_calls(self, function, ["plan"], (((0, 2), (1, 0)),), [both(NOT_PLANS, BadPlan)])
        good = (((0, 2), (1, 0)), ((0, 2),))
        check_calls(self, met, ["one", "other"], good, [both(NOT_PLANS, BadPlan), both(NOT_PLANS, BadPlan)])


class Books(unittest.TestCase):
    def test_is_book(self):
        for book in (((),), ((),) * 16, (FULL,) * 16, (((0, 1),), (), ((0, 1),)), (((0, 0),),)):
            self.assertIs(is_book(book), True)
            self.assertIs(is_book(thing=book), True)
        for thing in NOT_BOOKS:
            with self.subTest(thing=thing):
                self.assertIs(is_book(thing), False)

    def test_how_many_plans(self):
        for many in range(20):
            self.assertIs(is_book(((),) * many), 1 <= many <= 16)

    def test_one_wrong_plan_anywhere(self):
        for at in (0, 7, 15):
            for wrong in ODD + [((0, 8),), ((True, 0),)]:
                plans = [FULL] * 16
                plans[at] = wrong
                self.assertIs(is_book(tuple(plans)), False)

    def test_a_list_is_no_book(self):
        self.assertIs(is_book([((0, 0),)]), False)
        self.assertIs(is_book(([(0, 0)],)), False)


if __name__ == "__main__":
    unittest.main()
