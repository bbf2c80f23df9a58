"""Greatest picks of small books, and books barred by plans, persons and desks."""

from pairpicks.checks import are_ascending
from pairpicks.errors import BadDesks, BadNumbers, BadPersons, TooMany
from pairpicks.picks import pick_of
from pairpicks.plans import LAST, need_book

SMALL_PLANS = 8
SMALL_PAIRS = 28


def need_few_plans(book):
    """Raise TooMany for a book of more plans than a small one has."""
    if len(book) > SMALL_PLANS:
        raise TooMany(SMALL_PLANS)


def need_few(book):
    """Raise TooMany for a book that is not small."""
    need_few_plans(book)
    if sum([len(plan) for plan in book]) > SMALL_PAIRS:
        raise TooMany(SMALL_PAIRS)


def need_small(book):
    """Raise BadBook for what is no book, and TooMany for a book that is not small."""
    need_book(book)
    need_few(book)


def greatest_pick(book):
    """Return a pick with as many pairs as can be."""
    need_small(book)
    best = {}
    more = pick_of(book, 1)
    while more is not None:
        best = more
        more = pick_of(book, len(best) + 1)
    return best


def greatest(book):
    """Return the greatest number of pairs that a pick has."""
    return len(greatest_pick(book))


def left_in(plan, persons, desks):
    """Return the pairs of the plan that have none of these persons and none of these desks."""
    return tuple([pair for pair in plan if pair[0] not in persons and pair[1] not in desks])


def need_barring(book, numbers, persons, desks):
    """Raise the errors of barred."""
    need_book(book)
    if not are_ascending(numbers, len(book) - 1):
        raise BadNumbers("numbers are an ascending tuple of unlike numbers of plans")
    if not are_ascending(persons, LAST):
        raise BadPersons("persons are an ascending tuple of unlike persons")
    if not are_ascending(desks, LAST):
        raise BadDesks("desks are an ascending tuple of unlike desks")


def barred(book, numbers, persons, desks):
    """Return the book without the pairs of these plans, of these persons and of these desks."""
    need_barring(book, numbers, persons, desks)
    return tuple([() if k in numbers else left_in(book[k], persons, desks) for k in range(len(book))])
