"""Guards: plans, persons and desks without which a book has no pair left."""

from pairpicks.checks import are_ascending
from pairpicks.greatest import left_in, need_barring, need_small
from pairpicks.plans import LAST, need_book

# As members these bar nothing.
NO_MEMBERS = ((), (), ())


def are_members(book, thing):
    """Tell whether any value is a triple (numbers, persons, desks) as barred takes them."""
    if not isinstance(thing, tuple) or len(thing) != 3:
        return False
    numbers, persons, desks = thing
    return are_ascending(numbers, len(book) - 1) and are_ascending(persons, LAST) and are_ascending(desks, LAST)


def left_over(book, members):
    """Return the ascending list of the triples (number, person, desk) that have none of the members."""
    numbers, persons, desks = members
    found = []
    for number in range(len(book)):
        if number not in numbers:
            found.extend([(number, person, desk) for person, desk in left_in(book[number], persons, desks)])
    return found


def is_guard(book, thing):
    """Tell whether any value is a guard of the book."""
    need_book(book)
    return are_members(book, thing) and left_over(book, thing) == []


def unguarded(book, numbers, persons, desks):
    """Return the ascending list of the triples (number, person, desk) of the pairs that are left."""
    need_barring(book, numbers, persons, desks)
    return left_over(book, (numbers, persons, desks))


def with_member(members, place, member):
    """Return the members and this one more, at its place among numbers, persons and desks."""
    longer = tuple(sorted(members[place] + (member,)))
    return members[:place] + (longer,) + members[place + 1:]


def guarding(triples, most):
    """Return at most so many members, such that each triple has one of them; None if there are none."""
    if triples == []:
        return NO_MEMBERS
    if most < 1:
        return None
    # The first triple must be guarded, by its plan, its person or its desk.
    for place, member in enumerate(triples[0]):
        rest = guarding([triple for triple in triples if triple[place] != member], most - 1)
        if rest is not None:
            return with_member(rest, place, member)
    return None


def least_guard(book):
    """Return a guard with as few members as can be."""
    need_small(book)
    triples = left_over(book, NO_MEMBERS)
    most = 0
    while guarding(triples, most) is None:
        most += 1
    return guarding(triples, most)
