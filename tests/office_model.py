"""An office told anew from the words of points 70 and 71, and deeds drawn for it."""

from pairpicks.errors import (BadLabel, BadLabels, BadOrder, BadPair, BadPlan, Clash, IsHere, IsUnused, IsUsed, NoEnd,
                              NotHere, NothingDone, NothingUndone, TooMany)
from pairpicks.plans import is_plan
from tests.test_chains import chain_by_hand
from tests.test_fewer import wide_chain_by_words

CHAINS = {"grow": chain_by_hand, "grow_wide": wide_chain_by_words}


def is_number(thing, least, most):
    """Whether a thing is a number from least to most."""
    return thing.__class__ is int and least <= thing <= most


def is_row(thing, most):
    """Whether a thing is a tuple of unlike numbers from 0 to most."""
    right = thing.__class__ is tuple and all(is_number(item, 0, most) for item in thing)
    return right and len(set(thing)) == len(thing)


def way_by_words(pairs, triples):
    """The triples that lead to the end of a chain, told word by word."""
    way = [triples[-1]]
    while way[0][1] in [person for person, desk in pairs.values()]:
        desk = next(desk for person, desk in pairs.values() if person == way[0][1])
        way = [triple for triple in triples if triple[2] == desk] + way
    return way


def grown_by_words(pairs, way):
    """The pairs that are held behind a growing, told word by word."""
    movers = [person for label, person, desk in way]
    stay = {label: pair for label, pair in pairs.items() if pair[0] not in movers}
    return {**stay, **{label: (person, desk) for label, person, desk in way}}


class Model:
    """The plans that are here, the pairs that are held, the deeds, and what was taken back."""

    def __init__(self):
        self.plans, self.pairs = {}, {}
        # Each deed with what it brought: the plans and the pairs ahead, and who was seated where in its course.
        self.done, self.undone = [], []

    def unused(self):
        """The labels of the unused plans, ascending."""
        return sorted(label for label in self.plans if label not in self.pairs)

    def label_error(self, label):
        """The error of a label that is to be here."""
        if not is_number(label, 0, 99):
            return BadLabel, None
        return None if label in self.plans else (NotHere, label)

    def error(self, name, values):
        """The error of a deed, as a pair (class, attribute), or None."""
        if name in ("leave", "change", "put"):
            wrong = self.label_error(values[0])
            if wrong:
                return wrong
        return getattr(self, name + "_error")(*values)

    def come_error(self, label, plan):
        if not is_number(label, 0, 99):
            return BadLabel, None
        if label in self.plans:
            return IsHere, label
        if not is_plan(plan):
            return BadPlan, None
        return (TooMany, 16) if len(self.plans) == 16 else None

    def leave_error(self, label):
        return None

    def change_error(self, label, plan):
        return None if is_plan(plan) else (BadPlan, None)

    def put_error(self, label, pair):
        if label in self.pairs:
            return IsUsed, label
        right = pair.__class__ is tuple and all(item.__class__ is int for item in pair)
        if not right or pair not in self.plans[label]:
            return BadPair, None
        for used in sorted(self.pairs):
            if self.pairs[used][0] == pair[0] or self.pairs[used][1] == pair[1]:
                return Clash, used
        return None

    def take_off_error(self, labels):
        if not is_row(labels, 99) or list(labels) != sorted(labels) or labels == ():
            return BadLabels, None
        for label in labels:
            if label not in self.plans:
                return NotHere, label
            if label not in self.pairs:
                return IsUnused, label
        return None

    def grow_error(self, order, name="grow"):
        if not is_row(order, 99) or sorted(order) != self.unused():
            return BadOrder, None
        return None if CHAINS[name](self.plans, self.pairs, order)[1] else (NoEnd, None)

    def grow_wide_error(self, order):
        return self.grow_error(order, "grow_wide")

    def settle_error(self):
        return None

    def rename_error(self, persons, desks):
        right = is_row(persons, 7) and is_row(desks, 7) and len(persons) == len(desks) == 8
        return None if right else (BadOrder, None)

    def undo_error(self):
        return None if self.done else (NothingDone, None)

    def redo_error(self):
        return None if self.undone else (NothingUndone, None)

    def do(self, name, values):
        """Do a deed that has no error, and return its result."""
        if name == "undo":
            self.undone.append((self.done[-1], (self.plans, self.pairs)))
            self.plans, self.pairs = self.done.pop()[1]
            return None
        if name == "redo":
            entry, state = self.undone.pop()
            self.done.append(entry)
            self.plans, self.pairs = state
            return None
        ahead = (self.plans, self.pairs)
        self.plans, self.pairs = dict(self.plans), dict(self.pairs)
        course = []
        result = getattr(self, "do_" + name)(*values, course)
        if name != "rename":
            course.append(dict(self.pairs.values()))
        self.done.append(((name, *values), ahead, course))
        self.undone = []
        return result

    def do_come(self, label, plan, course):
        self.plans[label] = plan

    def do_leave(self, label, course):
        del self.plans[label]
        self.pairs.pop(label, None)

    def do_change(self, label, plan, course):
        self.plans[label] = plan
        if self.pairs.get(label) not in plan:
            self.pairs.pop(label, None)

    def do_put(self, label, pair, course):
        self.pairs[label] = pair

    def do_take_off(self, labels, course):
        for label in labels:
            del self.pairs[label]

    def do_grow(self, order, course, name="grow"):
        way = way_by_words(self.pairs, CHAINS[name](self.plans, self.pairs, order)[0])
        self.pairs = grown_by_words(self.pairs, way)
        return way

    def do_grow_wide(self, order, course):
        return self.do_grow(order, course, "grow_wide")

    def do_settle(self, course):
        many = 0
        while wide_chain_by_words(self.plans, self.pairs, self.unused())[1]:
            self.do_grow(self.unused(), course, "grow_wide")
            course.append(dict(self.pairs.values()))
            many += 1
        return many

    def do_rename(self, persons, desks, course):
        self.plans = {label: tuple(sorted((persons[p], desks[d]) for p, d in plan))
                      for label, plan in self.plans.items()}
        self.pairs = {label: (persons[p], desks[d]) for label, (p, d) in self.pairs.items()}

    def stays(self):
        """The desks at which persons have been, all deeds gone through."""
        rows = {}
        for deed, _, course in [(entry[0], entry[1], entry[2]) for entry in self.done]:
            if deed[0] == "rename":
                rows = {deed[1][p]: [deed[2][d] for d in row] for p, row in rows.items()}
            for seats in course:
                rows = {p: rows.get(p, []) for p in seats}
                for p, d in seats.items():
                    if rows[p][-1:] != [d]:
                        rows[p] = rows[p] + [d]
        return [tuple(rows.get(person, ())) for person in range(8)]

    def told(self):
        """What an office tells, by the names of its methods."""
        labels = sorted(self.plans)
        persons = sorted(person for person, desk in self.pairs.values())
        desks = sorted(desk for person, desk in self.pairs.values())
        return {
            "labels": labels,
            "unused_labels": self.unused(),
            "held": {label: self.pairs[label] for label in sorted(self.pairs)},
            "book": tuple(self.plans[label] for label in labels),
            "pick": {labels.index(label): self.pairs[label] for label in sorted(self.pairs)},
            "seated": dict(sorted(self.pairs.values())),
            "openings": [(label, p, d) for label in self.unused() for p, d in self.plans[label]
                         if p not in persons and d not in desks],
            "taken": (tuple(persons), tuple(desks)),
            "log": [entry[0] for entry in self.done],
        }


NAMES = ["come", "leave", "change", "put", "take_off", "grow", "grow_wide", "settle", "rename", "undo", "redo"]
WEIGHTS = [26, 5, 8, 20, 5, 12, 12, 2, 4, 8, 7]


def drawn_deed(dice, model, among=5, wild=0.1):
    """A deed for the office, most often one that can be done."""
    name = dice.random.choices(NAMES, WEIGHTS)[0]
    labels = sorted(model.plans) if model.plans and dice.random.random() >= wild else list(range(100))
    label = dice.random.choice(labels)
    if name == "come":
        fresh = [each for each in range(100) if each not in model.plans]
        label = dice.random.choice(fresh) if dice.random.random() >= wild else label
        return name, (label, dice.plan(dice.number(0, min(among, 4)), among))
    if name == "leave":
        return name, (label,)
    if name == "change":
        plan = dice.plan(dice.number(0, min(among, 4)), among)
        if label in model.pairs and dice.random.random() < 0.6:
            kept = model.pairs[label]
            plan = tuple(sorted([pair for pair in plan if pair[0] != kept[0] and pair[1] != kept[1]] + [kept]))
        return name, (label, plan)
    if name == "put":
        if model.unused() and dice.random.random() >= wild:
            label = dice.random.choice(model.unused())
        plan = model.plans.get(label, ())
        taken = list(model.pairs.values())
        free = [pair for pair in plan if not any(pair[0] == p or pair[1] == d for p, d in taken)]
        if free and dice.random.random() >= wild:
            return name, (label, dice.random.choice(free))
        return name, (label, dice.random.choice(plan) if plan else (0, 0))
    if name == "take_off":
        used = sorted(model.pairs) if model.pairs and dice.random.random() >= wild else labels
        return name, (tuple(sorted(dice.part(used, dice.number(0, min(3, len(used)))))),)
    if name in ("grow", "grow_wide"):
        order = dice.order(model.unused())
        return name, (order[1:] if dice.random.random() < wild else order,)
    if name == "rename":
        return name, (dice.order(range(8)), dice.order(range(8)))
    return name, ()
