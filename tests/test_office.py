"""Points 70 and 71, and guarantee (g)."""

import copy
import unittest

from pairpicks.books import sizes, sure
from pairpicks.errors import (BadLabel, BadLabels, BadOrder, BadPair, BadPerson, BadPlan, Clash, IsHere, IsUnused,
                              IsUsed, NoEnd, NotHere, NothingDone, NothingUndone, PickError, TooMany)
from pairpicks.fewer import wide_sure
from pairpicks.office import Office
from pairpicks.picks import is_pick, openings
from pairpicks.plans import is_book
from tests.helper import NOT_NUMBERS, NOT_PAIRS, NOT_PERSONS, NOT_PLANS, ODD, Dice, not_ascending, not_orders, spoil
from tests.office_model import Model, drawn_deed, grown_by_words, way_by_words
from tests.test_chains import chain_by_hand

FLAT = ((0, 0), (1, 1))
CROSS = ((0, 1), (1, 0))
NOT_LABELS = NOT_NUMBERS + [-1, 100, 999999999, -999999999]
TOLD = ["labels", "unused_labels", "held", "book", "pick", "seated", "openings", "taken", "log"]
DEED_NAMES = {
    "come": ["label", "plan"], "leave": ["label"], "change": ["label", "plan"], "put": ["label", "pair"],
    "take_off": ["labels"], "grow": ["order"], "grow_wide": ["order"], "settle": [], "rename": ["persons", "desks"],
    "undo": [], "redo": [],
}
PARAMETERS = {**DEED_NAMES, "plan": ["label"], "stays": ["person"], "would": ["order"]}
GROWING = ("come", "put", "grow", "grow_wide", "settle")


def hand():
    """The office of the example by hand, ahead of grow."""
    office = Office()
    office.come(5, FLAT)
    office.come(2, FLAT)
    office.come(9, CROSS)
    office.put(5, (0, 0))
    return office


def everything(office):
    """All that an office tells."""
    told = {name: getattr(office, name)() for name in TOLD}
    told["plans"] = {label: office.plan(label) for label in office.labels()}
    told["stays"] = [office.stays(person) for person in range(8)]
    return told


def undoings(office):
    """What can be done again, one after the other."""
    twin = office.copy()
    found = []
    while True:
        try:
            twin.redo()
        except NothingUndone:
            return found
        found.append(twin.log()[-1])


class Case(unittest.TestCase):
    def refused(self, office, name, values, error, attribute=None):
        """Check that the office refuses this, and that nothing is changed by it."""
        before, again = everything(office), undoings(office)
        for way in ("position", "name"):
            with self.subTest(name=name, values=values, way=way), self.assertRaises(PickError) as caught:
                if way == "position":
                    getattr(office, name)(*values)
                else:
                    getattr(office, name)(**dict(zip(PARAMETERS[name], values)))
            self.assertIs(caught.exception.__class__, error)
            if attribute is not None:
                self.assertEqual(list(vars(caught.exception).values()), [attribute])
        self.assertEqual([everything(office), undoings(office)], [before, again])

    def check_told(self, office, model, dice):
        """Check what the office tells against the model."""
        told = model.told()
        for name in TOLD:
            found = getattr(office, name)()
            self.assertEqual(found, told[name], name)
            self.assertIs(found.__class__, told[name].__class__)
            if isinstance(found, dict):
                self.assertEqual(list(found), sorted(found))
        self.assertEqual(len(office), len(model.done))
        for label in model.plans:
            self.assertEqual(office.plan(label), model.plans[label])
        self.assertEqual([office.stays(person) for person in range(8)], model.stays())
        order = dice.order(model.unused())
        triples, ended = chain_by_hand(model.plans, model.pairs, order)
        if ended:
            due = grown_by_words(model.pairs, way_by_words(model.pairs, triples))
            self.assertEqual(office.would(order), due)
            self.assertEqual(list(office.would(order)), sorted(due))
        else:
            self.assertRaises(NoEnd, office.would, order)
        if model.plans:
            self.assertIs(is_book(office.book()), True)
            self.assertIs(is_pick(office.book(), office.pick()), True)
            due = [(office.labels()[number], p, d) for number, p, d in openings(office.book(), office.pick())]
            self.assertEqual(office.openings(), due)

    def do(self, office, model, name, values):
        """Do a deed in the office and in the model, or see both refuse it; return whether it was done."""
        wrong = model.error(name, values)
        if wrong:
            self.refused(office, name, values, *wrong)
            return False
        seats, taken = office.seated(), office.taken()
        result = getattr(office, name)(*values)
        self.assertEqual(result, model.do(name, values))
        if name in GROWING:
            self.assertLessEqual(set(seats), set(office.seated()))
            self.assertLessEqual(set(taken[1]), set(office.taken()[1]))
        if name in ("grow", "grow_wide"):
            self.assertEqual(len({person for label, person, desk in result}), len(result))
            self.assertLessEqual(len(result), len(values[0]))
        if name == "settle":
            self.check_settled(office)
        return True

    def check_settled(self, office):
        """Check the facts of an office behind settle."""
        self.assertEqual(office.openings(), [])
        if office.labels():
            held = len(office.held())
            self.assertGreaterEqual(held, wide_sure(sizes(office.book())))
            self.assertGreaterEqual(held, sure(office.book()))
        self.refused(office, "grow_wide", (tuple(office.unused_labels()),), NoEnd)


class ByHand(Case):
    def test_document(self):
        office = hand()
        self.refused(office, "put", (9, (1, 0)), Clash, 5)
        self.assertEqual(office.would((9, 2)), {2: (1, 1), 5: (0, 0)})
        self.assertEqual(office.held(), {5: (0, 0)})
        self.assertEqual(office.grow((9, 2)), [(2, 1, 1)])
        self.assertEqual(list(office.held().items()), [(2, (1, 1)), (5, (0, 0))])
        self.assertEqual(list(office.pick().items()), [(0, (1, 1)), (1, (0, 0))])
        self.assertEqual([office.openings(), office.stays(1), office.stays(0)], [[], (1,), (0,)])
        self.assertEqual([office.labels(), office.unused_labels()], [[2, 5, 9], [9]])
        self.assertEqual(office.book(), (FLAT, FLAT, CROSS))
        self.assertEqual([office.seated(), office.taken()], [{0: 0, 1: 1}, ((0, 1), (0, 1))])
        self.assertEqual(office.log(), [("come", 5, FLAT), ("come", 2, FLAT), ("come", 9, CROSS), ("put", 5, (0, 0)),
                                        ("grow", (9, 2))])
        self.assertEqual(len(office), 5)

    def test_a_new_office(self):
        office = Office()
        self.assertEqual(everything(office), {
            "labels": [], "unused_labels": [], "held": {}, "book": (), "pick": {}, "seated": {}, "openings": [],
            "taken": ((), ()), "log": [], "plans": {}, "stays": [()] * 8})
        self.assertEqual(len(office), 0)
        self.refused(office, "undo", (), NothingDone)
        self.refused(office, "redo", (), NothingUndone)
        for name in ("grow", "grow_wide", "would"):
            self.refused(office, name, ((),), NoEnd)
            self.refused(office, name, ((0,),), BadOrder)
        self.assertEqual(office.settle(), 0)
        self.assertEqual(office.log(), [("settle",)])
        self.assertIs(office == Office(), True)

    def test_deeds_have_no_result(self):
        office = Office()
        results = [office.come(0, CROSS), office.come(99, FLAT), office.put(99, (1, 1)), office.change(99, FLAT[1:]),
                   office.rename((1, 0, 2, 3, 4, 5, 6, 7), (0, 1, 2, 3, 4, 5, 6, 7)), office.take_off((99,)),
                   office.leave(99), office.undo(), office.redo()]
        self.assertEqual(results, [None] * 9)
        self.assertEqual(office.labels(), [0])
        self.assertEqual(office.plan(0), ((0, 0), (1, 1)))

    def test_change(self):
        office = hand()
        office.change(5, ((0, 0), (3, 3)))
        self.assertEqual([office.held(), office.plan(5)], [{5: (0, 0)}, ((0, 0), (3, 3))])
        office.change(5, ((0, 1), (3, 3)))
        self.assertEqual([office.held(), office.unused_labels()], [{}, [2, 5, 9]])
        office.change(5, ((0, 0),))
        self.assertEqual([office.held(), office.seated()], [{}, {}])
        office.undo()
        office.undo()
        self.assertEqual(office.held(), {5: (0, 0)})
        office.change(5, ())
        self.assertEqual([office.held(), office.plan(5), office.labels()], [{}, (), [2, 5, 9]])

    def test_leave(self):
        office = hand()
        office.leave(2)
        self.assertEqual([office.held(), office.labels()], [{5: (0, 0)}, [5, 9]])
        office.leave(5)
        self.assertEqual([office.held(), office.labels(), office.taken()], [{}, [9], ((), ())])
        office.come(5, FLAT)
        self.assertEqual(office.unused_labels(), [5, 9])

    def test_clash_tells_the_least_label(self):
        office = Office()
        for label, plan in ((7, ((0, 0),)), (3, ((1, 1),)), (4, ((2, 2),)), (1, ((0, 1), (1, 0), (2, 3)))):
            office.come(label, plan)
        office.put(7, (0, 0))
        office.put(4, (2, 2))
        for pair in ((0, 1), (1, 0)):
            self.refused(office, "put", (1, pair), Clash, 7)
        office.put(3, (1, 1))
        for pair in ((0, 1), (1, 0)):
            self.refused(office, "put", (1, pair), Clash, 3)
        self.refused(office, "put", (1, (2, 3)), Clash, 4)

    def test_sixteen_plans(self):
        office = Office()
        for label in range(0, 64, 4):
            office.come(label, FLAT)
        self.assertEqual(len(office.book()), 16)
        self.refused(office, "come", (99, FLAT), TooMany, 16)
        self.refused(office, "come", (99, None), BadPlan)
        self.refused(office, "come", (0, FLAT), IsHere, 0)
        office.change(0, CROSS)
        office.leave(60)
        office.come(99, CROSS)
        self.refused(office, "come", (60, FLAT), TooMany, 16)
        self.assertEqual(office.settle(), 2)


class Stays(Case):
    def test_chains_bring_other_desks(self):
        office = Office()
        office.come(0, ((0, 0), (1, 1)))
        office.come(1, ((0, 1),))
        office.come(2, ((1, 0),))
        office.put(0, (0, 0))
        self.assertEqual(office.grow((2, 1)), [(2, 1, 0), (1, 0, 1)])
        self.assertEqual([office.stays(0), office.stays(1)], [(0, 1), (0,)])
        office.undo()
        self.assertEqual([office.stays(0), office.stays(1)], [(0,), ()])
        office.redo()
        self.assertEqual([office.stays(0), office.stays(1)], [(0, 1), (0,)])
        office.take_off((1,))
        self.assertEqual([office.stays(0), office.stays(1)], [(), (0,)])
        office.put(1, (0, 1))
        self.assertEqual(office.stays(0), (1,))

    def test_within_one_settle(self):
        office = Office()
        office.come(0, ((0, 0),))
        office.put(0, (0, 0))
        office.come(1, ((1, 0),))
        office.come(2, ((0, 1),))
        office.come(3, ((2, 1),))
        office.come(4, ((0, 2),))
        self.assertEqual(office.settle(), 2)
        self.assertEqual(office.seated(), {0: 2, 1: 0, 2: 1})
        self.assertEqual([office.stays(person) for person in range(4)], [(0, 1, 2), (0,), (1,), ()])
        office.rename((7, 6, 5, 4, 3, 2, 1, 0), (1, 2, 3, 0, 4, 5, 6, 7))
        self.assertEqual([office.stays(person) for person in (7, 6, 5, 0)], [(1, 2, 3), (1,), (2,), ()])
        office.undo()
        self.assertEqual(office.stays(0), (0, 1, 2))
        office.undo()
        self.assertEqual([office.stays(0), office.stays(1)], [(0,), ()])

    def test_back_to_the_first_desk(self):
        office = Office()
        office.come(0, ((0, 0),))
        office.put(0, (0, 0))
        office.come(1, ((1, 0),))
        office.come(2, ((0, 1),))
        office.grow((1, 2))
        office.leave(1)
        office.come(3, ((2, 1),))
        office.come(4, ((0, 0),))
        self.assertEqual(office.stays(0), (0, 1))
        self.assertEqual(office.grow((0, 3, 4)), [(3, 2, 1), (4, 0, 0)])
        self.assertEqual([office.stays(0), office.stays(1), office.stays(2)], [(0, 1, 0), (), (1,)])

    def test_unbroken_by_change(self):
        office = hand()
        office.grow((9, 2))
        before = office.stays(0)
        office.change(5, ((0, 0),))
        self.assertEqual(office.stays(0), before)
        office.change(5, ((0, 7),))
        self.assertEqual(office.stays(0), ())
        office.put(5, (0, 7))
        self.assertEqual(office.stays(0), (7,))


class Runs(Case):
    def run_of(self, seed, many, among, wild=0.1):
        """A run of drawn deeds, told anew behind each; the office, and the names of what was done and refused."""
        dice = Dice(seed)
        office, model = Office(), Model()
        found = set()
        for _ in range(many):
            name, values = drawn_deed(dice, model, among, wild)
            found.add((name, self.do(office, model, name, values)))
            self.check_told(office, model, dice)
        return office, model, found

    def test_drawn_deeds(self):
        found = set()
        for seed in range(380, 400):
            found |= self.run_of(seed, 120, 2 + seed % 6)[2]
        for name in DEED_NAMES:
            self.assertIn((name, True), found)
            if name not in ("settle", "rename"):
                self.assertIn((name, False), found)

    def test_wild_deeds(self):
        for seed in range(400, 406):
            self.run_of(seed, 80, 4, 0.5)

    def test_undo_and_redo(self):
        dice = Dice(406)
        for seed in range(407, 412):
            office, model, _ = self.run_of(seed, 60, 4)
            log, many = office.log(), len(office)
            rows = [everything(office)]
            while len(office):
                office.undo()
                rows.append(everything(office))
                self.assertEqual(office.log(), log[:len(office)])
            self.assertEqual(everything(office), everything(Office()))
            self.refused(office, "undo", (), NothingDone)
            for row in rows[-2::-1]:
                office.redo()
                self.assertEqual(everything(office), row)
            self.assertEqual(len(office), many)
            back = dice.number(1, many - 1)
            for _ in range(back):
                office.undo()
            wrong = [("leave", (100,)), ("come", (0, None)), ("put", (0, None)), ("rename", ((), ()))]
            for name, values in wrong:
                self.assertRaises(PickError, getattr(office, name), *values)
            self.assertEqual(undoings(office), log[many - back:])
            office.settle()
            self.refused(office, "redo", (), NothingUndone)
            self.assertEqual(office.log(), log[:many - back] + [("settle",)])

    def test_each_deed_forgets_what_could_be_done_again(self):
        rename = ((1, 0, 2, 3, 4, 5, 6, 7), (0, 1, 2, 3, 4, 5, 6, 7))
        for name, values in (("come", (7, ())), ("leave", (2,)), ("change", (2, ())), ("put", (2, (1, 1))),
                             ("take_off", ((5,),)), ("grow", ((9, 2),)), ("grow_wide", ((9, 2),)), ("settle", ()),
                             ("rename", rename)):
            office = hand()
            office.come(50, CROSS)
            office.undo()
            self.assertEqual(undoings(office), [("come", 50, CROSS)])
            getattr(office, name)(*values)
            self.assertEqual(undoings(office), [])
            self.assertEqual(office.log()[-1], (name, *values))
            self.assertEqual(len(office), 5)
            office.undo()
            self.assertEqual(everything(office), everything(hand()))
            self.assertEqual(undoings(office), [(name, *values)])

    def test_nothing_that_is_told_forgets(self):
        office = hand()
        office.undo()
        everything(office)
        office.copy()
        self.assertRaises(BadOrder, office.would, ())
        office.would((2, 5, 9))
        self.assertEqual(undoings(office), [("put", 5, (0, 0))])

    def test_copies(self):
        for seed in range(412, 416):
            office, model, _ = self.run_of(seed, 40, 4)
            if len(office):
                office.undo()
            twin = office.copy()
            self.assertIsNot(twin, office)
            self.assertIs(twin == office, True)
            self.assertEqual([everything(twin), undoings(twin)], [everything(office), undoings(office)])
            before, again = everything(office), undoings(office)
            twin.settle()
            if len(twin.labels()) < 16:
                twin.come(next(label for label in range(100) if label not in twin.labels()), CROSS)
            else:
                twin.leave(twin.labels()[0])
            self.assertEqual([everything(office), undoings(office)], [before, again])
            self.assertIs(twin == office, False)
            after = everything(twin)
            office.undo()
            office.settle()
            self.assertEqual(everything(twin), after)


class Equal(Case):
    def test_other_ways(self):
        one, other = hand(), Office()
        other.come(9, ())
        other.come(2, FLAT)
        other.change(9, CROSS)
        other.come(5, FLAT)
        other.settle()
        self.assertIs(one == other, False)
        self.assertIs(one != other, True)
        other.take_off(tuple(sorted(other.held())))
        other.put(5, (0, 0))
        self.assertIs(one == other, True)
        self.assertIs(one != other, False)
        self.assertNotEqual(one.log(), other.log())
        other.undo()
        self.assertIs(one == other, False)
        other.redo()
        self.assertIs(one == other, True)
        other.leave(9)
        self.assertIs(one == other, False)

    def test_labels_and_pairs_count(self):
        one, other = Office(), Office()
        one.come(1, FLAT)
        other.come(2, FLAT)
        self.assertIs(one == other, False)
        other.leave(2)
        other.come(1, FLAT)
        self.assertIs(one == other, True)
        one.put(1, (0, 0))
        self.assertIs(one == other, False)
        other.put(1, (1, 1))
        self.assertIs(one == other, False)
        other.change(1, FLAT[1:])
        self.assertIs(one == other, False)

    def test_other_kinds(self):
        office = hand()
        for thing in ODD + [office.book(), office.plan(5), {}, (), [], 0, office.log()]:
            self.assertIs(office == thing, False)
            self.assertIs(office != thing, True)
            self.assertIs(thing == office, False)


class Refused(Case):
    def test_labels(self):
        office = hand()
        office.undo()
        office.undo()
        office.redo()
        office.redo()
        office.come(0, ())
        office.undo()
        for label in NOT_LABELS:
            for name, more in (("come", (None,)), ("leave", ()), ("change", (None,)), ("put", (None,)), ("plan", ())):
                self.refused(office, name, (label, *more), BadLabel)
        for label in (0, 3, 99):
            for name, more in (("leave", ()), ("change", (None,)), ("put", (None,)), ("plan", ())):
                self.refused(office, name, (label, *more), NotHere, label)
        for label in (2, 5, 9):
            self.refused(office, "come", (label, None), IsHere, label)
            self.refused(office, "come", (label, FLAT), IsHere, label)

    def test_plans_and_pairs(self):
        office = hand()
        for plan in NOT_PLANS:
            self.refused(office, "come", (7, plan), BadPlan)
            self.refused(office, "change", (5, plan), BadPlan)
        for pair in NOT_PAIRS + [(0, 1), (1, 0), (2, 2), (False, 0), (1, True)]:
            self.refused(office, "put", (2, pair), BadPair)
            self.refused(office, "put", (5, pair), IsUsed, 5)
        self.refused(office, "put", (5, (0, 0)), IsUsed, 5)
        self.refused(office, "put", (5, (1, 1)), IsUsed, 5)
        self.refused(office, "put", (2, (0, 0)), Clash, 5)

    def test_take_off(self):
        office = hand()
        office.put(2, (1, 1))
        for labels in not_ascending(100) + [(), (5, 2), (2, 2), (2, 100), [2], (True, 2)]:
            self.refused(office, "take_off", (labels,), BadLabels)
        for labels, error, label in (((3,), NotHere, 3), ((9,), IsUnused, 9), ((2, 9, 10), IsUnused, 9),
                                     ((2, 5, 10, 99), NotHere, 10), ((1, 9), NotHere, 1), ((9, 50), IsUnused, 9),
                                     ((0,), NotHere, 0), ((99,), NotHere, 99)):
            self.refused(office, "take_off", (labels,), error, label)
        office.take_off((2, 5))
        self.assertEqual(office.held(), {})

    def test_orders(self):
        office = hand()
        for name in ("grow", "grow_wide", "would"):
            for order in not_orders((2, 9)) + [(2, 5, 9), (2,), (9,), (2, 9, 9), (9, 5), (2, 100), [9, 2]]:
                self.refused(office, name, (order,), BadOrder)
        office.change(2, ((0, 0),))
        office.change(9, ((1, 0),))
        for name in ("grow", "grow_wide", "would"):
            for order in ((2, 9), (9, 2)):
                self.refused(office, name, (order,), NoEnd)
        one = Office()
        one.come(0, FLAT)
        one.come(1, FLAT)
        for name in ("grow", "grow_wide", "would"):
            self.refused(one, name, ((False, 1),), BadOrder)
            self.refused(one, name, ((0, True),), BadOrder)

    def test_names(self):
        office = hand()
        right = tuple(range(8))
        for names in not_orders(right) + [right[:7], right + (8,), (0,) * 8, (1, 2, 3, 4, 5, 6, 7, 8)]:
            self.refused(office, "rename", (names, right), BadOrder)
            self.refused(office, "rename", (right, names), BadOrder)

    def test_persons(self):
        office = hand()
        for person in NOT_PERSONS:
            self.refused(office, "stays", (person,), BadPerson)


class Passed(Case):
    def test_what_is_told_may_be_changed(self):
        office = hand()
        office.grow((9, 2))
        office.undo()
        before = copy.deepcopy(everything(office))
        spoil(everything(office))
        spoil(office.would((9, 2)))
        self.assertEqual(everything(office), before)
        office.redo()
        self.assertEqual(len(office), 5)
        found = office.copy().settle()
        self.assertEqual(found, 0)
        office.undo()
        way = office.grow((2, 9))
        spoil(way)
        self.assertEqual(office.log()[-1], ("grow", (2, 9)))
        self.assertEqual(office.held(), {2: (1, 1), 5: (0, 0)})

    def test_by_name(self):
        office = Office()
        office.come(label=3, plan=FLAT)
        office.come(plan=CROSS, label=4)
        office.put(pair=(0, 0), label=3)
        office.change(label=4, plan=FLAT)
        self.assertEqual(office.would(order=(4,)), {3: (0, 0), 4: (1, 1)})
        self.assertEqual(office.grow(order=(4,)), [(4, 1, 1)])
        office.take_off(labels=(4,))
        self.assertEqual(office.grow_wide(order=(4,)), [(4, 1, 1)])
        office.rename(persons=(1, 0, 2, 3, 4, 5, 6, 7), desks=(0, 1, 2, 3, 4, 5, 6, 7))
        self.assertEqual(office.plan(label=3), ((0, 1), (1, 0)))
        self.assertEqual(office.stays(person=0), (1,))
        office.leave(label=3)
        self.assertEqual(office.held(), {4: (0, 1)})


class Facts(Case):
    def test_plans_that_come_one_by_one(self):
        dice = Dice(420)
        for k in range(1, 9):
            for _ in range(6):
                among = dice.number(k, 8)
                rows = [dice.plan(k, among) for _ in range(2 * k - 1)]
                rows += [dice.plan(dice.number(0, k), among) for _ in range(17 - 2 * k)]
                office = Office()
                seats = []
                for label, plan in zip(dice.part(range(100), 16), dice.order(rows)[:16]):
                    office.come(label, plan)
                    self.assertEqual(office.settle(), len(office.held()) - len(seats))
                    self.check_settled(office)
                    self.assertLessEqual(set(seats), set(office.seated()))
                    seats = list(office.seated())
                    full = [plan for plan in office.book() if len(plan) >= k]
                    if len(full) >= 2 * k - 1:
                        self.assertGreaterEqual(len(seats), k)
                self.assertGreaterEqual(len(seats), sure(office.book()))

    def test_settle_from_any_pick(self):
        dice = Dice(421)
        for _ in range(60):
            office, model = Office(), Model()
            for label in sorted(dice.part(range(100), dice.number(1, 16))):
                self.do(office, model, "come", (label, dice.plan(dice.number(0, 4), dice.number(4, 8))))
            for _ in range(4):
                deed = drawn_deed(dice, model)
                self.do(office, model, *deed)
            self.do(office, model, "settle", ())
            self.check_told(office, model, dice)

    def test_methods_are_defined_in_the_class(self):
        for name in list(DEED_NAMES) + TOLD + ["copy", "plan", "would", "stays", "__len__", "__eq__", "__init__"]:
            self.assertIn(name, vars(Office))


if __name__ == "__main__":
    unittest.main()
