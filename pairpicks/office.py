"""A live office: plans come and go, and whoever has a desk keeps one as long as no deed takes it."""

from pairpicks.books import need_names, renamed_plan
from pairpicks.chains import NARROW, WIDE, has_end, moved_along, walk, way_to_end
from pairpicks.checks import are_ascending, ascending, is_from, is_order
from pairpicks.errors import BadLabel, BadLabels, BadOrder, BadPair, BadPerson, Clash, IsHere, IsUnused, IsUsed
from pairpicks.errors import NotHere, NothingDone, NothingUndone, TooMany
from pairpicks.picks import clashing
from pairpicks.plans import LAST, MOST_PLANS, is_pair, need_plan

LAST_LABEL = 99


def need_label(label):
    """Raise BadLabel for what is no label."""
    if not is_from(label, 0, LAST_LABEL):
        raise BadLabel("a label is a number from 0 to 99")


def left_of(plans, pairs):
    """Return the ascending tuple of the labels of the unused plans."""
    return tuple([label for label in plans if label not in pairs])


def without_label(table, label):
    """Return the dict without what it has for this label."""
    return {each: table[each] for each in table if each != label}


def led_on(stays, pairs):
    """Return the dict from the persons of the pairs to the desks at which they have been, these being their last."""
    found = {}
    for person, desk in pairs.values():
        desks = stays.get(person, ())
        found[person] = desks if desks[-1:] == (desk,) else desks + (desk,)
    return found


class Office:
    """Plans that are here, called by labels, and the pairs that are held; what was done can be taken back."""

    def __init__(self):
        # Each deed stands beside the state behind it: the plans and the pairs that are held, both by their labels,
        # ascending, and the stays by the persons. A state is never changed, so copies can have the same one.
        self.done = []
        self.undone = []

    def __len__(self):
        """Return how many deeds stand."""
        return len(self.done)

    def __eq__(self, other):
        """Tell whether the same plans are here and the same pairs are held."""
        return isinstance(other, Office) and self.state()[:2] == other.state()[:2]

    def state(self):
        """Return the triple of the plans, the pairs that are held and the stays."""
        return self.done[-1][1] if self.done else ({}, {}, {})

    def record(self, deed, plans, pairs):
        """Let the deed stand, which leads to these plans and these pairs."""
        _, _, stays = self.state()
        self.record_with_stays(deed, plans, pairs, led_on(stays, pairs))

    def record_with_stays(self, deed, plans, pairs, stays):
        """Let the deed stand, which leads to these plans, pairs and stays."""
        self.done.append((deed, (ascending(plans), ascending(pairs), stays)))
        self.undone = []

    def need_here(self, label):
        """Raise BadLabel for what is no label, and NotHere if no plan with it is here."""
        need_label(label)
        plans, _, _ = self.state()
        if label not in plans:
            raise NotHere(label)

    def come(self, label, plan):
        """Let the plan be here, unused, with a new label."""
        plans, pairs, _ = self.state()
        need_label(label)
        if label in plans:
            raise IsHere(label)
        need_plan(plan)
        if len(plans) == MOST_PLANS:
            raise TooMany(MOST_PLANS)
        self.record(("come", label, plan), {**plans, label: plan}, pairs)

    def leave(self, label):
        """Let the plan be here no more, and its pair be held no more."""
        self.need_here(label)
        plans, pairs, _ = self.state()
        self.record(("leave", label), without_label(plans, label), without_label(pairs, label))

    def change(self, label, plan):
        """Let the plan be here in the place of the one with this label, with its pair if the plan has it."""
        self.need_here(label)
        need_plan(plan)
        plans, pairs, _ = self.state()
        if label in pairs and pairs[label] not in plan:
            pairs = without_label(pairs, label)
        self.record(("change", label, plan), {**plans, label: plan}, pairs)

    def put(self, label, pair):
        """Hold this pair of an unused plan, too."""
        self.need_here(label)
        plans, pairs, _ = self.state()
        if label in pairs:
            raise IsUsed(label)
        if not is_pair(pair) or pair not in plans[label]:
            raise BadPair("the pair is none of the plan")
        for used in pairs:
            if clashing([pairs[used]], pair):
                raise Clash(used)
        self.record(("put", label, pair), plans, {**pairs, label: pair})

    def take_off(self, labels):
        """Hold the pairs of these plans no more."""
        if not are_ascending(labels, LAST_LABEL) or labels == ():
            raise BadLabels("labels are an ascending tuple of one or more unlike labels")
        plans, pairs, _ = self.state()
        for label in labels:
            self.need_here(label)
            if label not in pairs:
                raise IsUnused(label)
        self.record(("take_off", labels), plans, {label: pairs[label] for label in pairs if label not in labels})

    def way(self, order, most):
        """Return the triples by which the pairs grow, at most so many pairs of one plan counting at once."""
        plans, pairs, _ = self.state()
        if not is_order(order, left_of(plans, pairs)):
            raise BadOrder("an order has the label of each unused plan once")
        return way_to_end(pairs, walk(plans, pairs, order, most))

    def grow(self, order):
        """Hold one pair more by the chain in this order, and return the triples of its path."""
        way = self.way(order, NARROW)
        plans, pairs, _ = self.state()
        self.record(("grow", order), plans, moved_along(pairs, way))
        return way

    def grow_wide(self, order):
        """Hold one pair more by the wide chain in this order, and return the triples of its path."""
        way = self.way(order, WIDE)
        plans, pairs, _ = self.state()
        self.record(("grow_wide", order), plans, moved_along(pairs, way))
        return way

    def settle(self):
        """Hold more pairs as long as the wide chain in ascending order ends, and return how many more."""
        plans, pairs, stays = self.state()
        before = len(pairs)
        triples = walk(plans, pairs, left_of(plans, pairs), WIDE)
        while has_end(pairs, triples):
            pairs = moved_along(pairs, way_to_end(pairs, triples))
            # Each growing may bring the same person to yet another desk.
            stays = led_on(stays, pairs)
            triples = walk(plans, pairs, left_of(plans, pairs), WIDE)
        self.record_with_stays(("settle",), plans, pairs, stays)
        return len(pairs) - before

    def rename(self, persons, desks):
        """Call each person and each desk otherwise, in all plans and pairs."""
        need_names(persons)
        need_names(desks)
        plans, pairs, stays = self.state()
        plans = {label: renamed_plan(plans[label], persons, desks) for label in plans}
        pairs = {label: (persons[pair[0]], desks[pair[1]]) for label, pair in pairs.items()}
        stays = {persons[person]: tuple([desks[desk] for desk in stays[person]]) for person in stays}
        self.record_with_stays(("rename", persons, desks), plans, pairs, stays)

    def undo(self):
        """Take back the last deed that stands."""
        if self.done == []:
            raise NothingDone("no deed stands")
        self.undone.append(self.done.pop())

    def redo(self):
        """Do again what was taken back last."""
        if self.undone == []:
            raise NothingUndone("no deed was taken back")
        self.done.append(self.undone.pop())

    def log(self):
        """Return the list of the deeds that stand."""
        return [deed for deed, state in self.done]

    def copy(self):
        """Return an independent office with the same deeds, and the same to be done again."""
        twin = Office()
        twin.done = list(self.done)
        twin.undone = list(self.undone)
        return twin

    def labels(self):
        """Return the ascending list of the labels of the plans that are here."""
        plans, _, _ = self.state()
        return list(plans)

    def unused_labels(self):
        """Return the ascending list of the labels of the unused plans."""
        plans, pairs, _ = self.state()
        return list(left_of(plans, pairs))

    def plan(self, label):
        """Return the plan with this label."""
        self.need_here(label)
        plans, _, _ = self.state()
        return plans[label]

    def held(self):
        """Return the dict from the labels of the used plans to their pairs."""
        _, pairs, _ = self.state()
        return ascending(pairs)

    def book(self):
        """Return the tuple of the plans that are here, their labels ascending."""
        plans, _, _ = self.state()
        return tuple(plans.values())

    def pick(self):
        """Return the pick of the book that is held."""
        plans, pairs, _ = self.state()
        return {number: pairs[label] for number, label in enumerate(plans) if label in pairs}

    def seated(self):
        """Return the dict from those who are seated to their desks."""
        _, pairs, _ = self.state()
        return dict(sorted(pairs.values()))

    def openings(self):
        """Return the list of the triples (label, person, desk) of unused plans' pairs that nothing stands against."""
        plans, pairs, _ = self.state()
        taken = list(pairs.values())
        found = []
        for label in left_of(plans, pairs):
            free = [pair for pair in plans[label] if clashing(taken, pair) == []]
            found.extend([(label, person, desk) for person, desk in free])
        return found

    def would(self, order):
        """Return the dict that held would tell behind grow in this order."""
        _, pairs, _ = self.state()
        return moved_along(pairs, self.way(order, NARROW))

    def stays(self, person):
        """Return the tuple of the desks at which the person has been since being seated without a break."""
        if not is_from(person, 0, LAST):
            raise BadPerson("a person is a number from 0 to 7")
        _, _, stays = self.state()
        return stays.get(person, ())

    def taken(self):
        """Return the pair of the ascending tuples of all who are seated, and of all desks at which somebody is."""
        _, pairs, _ = self.state()
        persons = sorted([person for person, desk in pairs.values()])
        return tuple(persons), tuple(sorted([desk for person, desk in pairs.values()]))
