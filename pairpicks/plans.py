"""Plans, which pair persons with desks, and books, which are rows of plans."""

from pairpicks.checks import is_from
from pairpicks.errors import BadBook, BadPlan

# Persons and desks are numbered from 0 to LAST.
LAST = 7
MOST_PLANS = 16


def is_pair(thing):
    """Tell whether any value is a pair (person, desk)."""
    if not isinstance(thing, tuple) or len(thing) != 2:
        return False
    return is_from(thing[0], 0, LAST) and is_from(thing[1], 0, LAST)


def are_apart(pairs):
    """Tell whether the pairs have unlike persons and unlike desks."""
    persons = len({pair[0] for pair in pairs})
    desks = len({pair[1] for pair in pairs})
    return persons == len(pairs) and desks == len(pairs)


def is_plan(thing):
    """Tell whether any value is a plan."""
    if not isinstance(thing, tuple):
        return False
    for pair in thing:
        if not is_pair(pair):
            return False
    return are_apart(thing) and list(thing) == sorted(thing)


def is_book(thing):
    """Tell whether any value is a book."""
    if not isinstance(thing, tuple) or not 1 <= len(thing) <= MOST_PLANS:
        return False
    for plan in thing:
        if not is_plan(plan):
            return False
    return True


def need_plan(plan):
    """Raise BadPlan for what is no plan."""
    if not is_plan(plan):
        raise BadPlan("a plan is an ascending tuple of pairs with unlike persons and unlike desks")


def need_book(book):
    """Raise BadBook for what is no book."""
    if not is_book(book):
        raise BadBook("a book is a tuple of one to sixteen plans")


def persons_of(plan):
    """Return the ascending tuple of the plan's persons."""
    need_plan(plan)
    return tuple([person for person, desk in plan])


def desks_of(plan):
    """Return the ascending tuple of the plan's desks."""
    need_plan(plan)
    return tuple(sorted([desk for person, desk in plan]))


def turned(plan):
    """Return the plan with persons for desks and desks for persons."""
    need_plan(plan)
    return tuple(sorted([(desk, person) for person, desk in plan]))


def met(one, other):
    """Return the plan of the pairs that are in both plans."""
    need_plan(one)
    need_plan(other)
    return tuple([pair for pair in one if pair in other])
