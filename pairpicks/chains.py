"""Chains: how a pick grows by a pair, such that whoever stands in it goes on standing in it."""

from pairpicks.checks import ascending, is_order
from pairpicks.errors import BadOrder, NoEnd
from pairpicks.picks import unused
from pairpicks.plans import LAST

# Of one plan at most so many pairs count at once: in a chain, and in a wide chain.
NARROW = 1
WIDE = 8


def counting(plan, reached, owners, seen):
    """Return the list of the pairs of the plan that count, if all of them count at once."""
    pairs = [pair for pair in plan if pair[0] in reached and pair[1] not in seen]
    ending = [pair for pair in pairs if pair[1] not in owners]
    return ending[:1] if ending else pairs


def walked(book, pick, order, most):
    """Return the triples of the chain in which at most so many pairs of one plan count."""
    if not is_order(order, unused(book, pick)):
        raise BadOrder("an order has each number of the unused plans once")
    return walk(book, pick, order, most)


def walk(plans, pick, order, most):
    """Return the triples of the chain through the plans in this order, with the numbers or labels that they have."""
    owners = {desk: person for person, desk in pick.values()}
    standing = list(owners.values())
    reached = {person: True for person in range(LAST + 1) if person not in standing}
    seen = {}
    triples = []
    for number in order:
        # A plan's pairs count at once: none of them is reached by another one.
        for person, desk in counting(plans[number], reached, owners, seen)[:most]:
            triples.append((number, person, desk))
            if desk not in owners:
                return triples
            seen[desk] = True
            reached[owners[desk]] = True
    return triples


def has_end(pick, triples):
    """Tell whether the chain of these triples ends."""
    taken = [desk for person, desk in pick.values()]
    return len(triples) > 0 and triples[-1][2] not in taken


def way_to_end(pick, triples):
    """Return those of the chain's triples that lead to its end."""
    if not has_end(pick, triples):
        raise NoEnd("the chain does not end")
    desk_of = {person: desk for person, desk in pick.values()}
    seen_by = {triple[2]: triple for triple in triples}
    way = [triples[-1]]
    while way[0][1] in desk_of:
        way.insert(0, seen_by[desk_of[way[0][1]]])
    return way


def moved_along(pick, way):
    """Return the pick in which the persons of the way have the pairs that it tells."""
    moving = [person for number, person, desk in way]
    more = {number: pick[number] for number in pick if pick[number][0] not in moving}
    for number, person, desk in way:
        more[number] = (person, desk)
    return ascending(more)


def chain(book, pick, order):
    """Return the list of the triples (number, person, desk) of the pairs that counted."""
    return walked(book, pick, order, NARROW)


def ends(book, pick, order):
    """Tell whether the chain ends."""
    return has_end(pick, chain(book, pick, order))


def path(book, pick, order):
    """Return the triples of the chain that lead to its end."""
    return way_to_end(pick, chain(book, pick, order))


def grown(book, pick, order):
    """Return the pick with one pair more that comes of the path."""
    return moved_along(pick, path(book, pick, order))
