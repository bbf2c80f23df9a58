"""Books: what is told of them, and the books that come of others."""

from pairpicks.checks import are_ascending, ascending, is_order_below
from pairpicks.errors import BadNumbers, BadOrder, TooMany
from pairpicks.plans import LAST, MOST_PLANS, need_book, turned


def sizes(book):
    """Return the tuple of the sizes of the book's plans."""
    need_book(book)
    return tuple([len(plan) for plan in book])


def times(book):
    """Return the dict from the book's pairs to how many plans they stand in."""
    need_book(book)
    counts = {}
    for plan in book:
        for pair in plan:
            counts[pair] = counts.get(pair, 0) + 1
    return ascending(counts)


def kept(book, numbers):
    """Return the book of the plans with these numbers alone."""
    need_book(book)
    if not are_ascending(numbers, len(book) - 1) or len(numbers) == 0:
        raise BadNumbers("numbers are an ascending tuple of one or more numbers of plans")
    return tuple([book[number] for number in numbers])


def joined(one, other):
    """Return the book with the plans of one, then those of other."""
    need_book(one)
    need_book(other)
    if len(one) + len(other) > MOST_PLANS:
        raise TooMany(MOST_PLANS)
    return one + other


def rearranged(book, order):
    """Return the book whose plan k is the plan order[k] of this one."""
    need_book(book)
    if not is_order_below(order, len(book)):
        raise BadOrder("an order has each number of the plans once")
    return tuple([book[number] for number in order])


def need_names(names):
    """Raise BadOrder for what has not each number of a person, or a desk, once."""
    if not is_order_below(names, LAST + 1):
        raise BadOrder("names have each number from 0 to 7 once")


def renamed_plan(plan, persons, desks):
    """Return the plan in which each pair (p, d) is (persons[p], desks[d])."""
    return tuple(sorted([(persons[person], desks[desk]) for person, desk in plan]))


def renamed(book, persons, desks):
    """Return the book in which each pair (p, d) is (persons[p], desks[d])."""
    need_book(book)
    need_names(persons)
    need_names(desks)
    return tuple([renamed_plan(plan, persons, desks) for plan in book])


def turned_book(book):
    """Return the book of the plans turned."""
    need_book(book)
    return tuple([turned(plan) for plan in book])


def sure(book):
    """Return the greatest k, such that 2 * k - 1 plans have size k or more; 0 if all are empty."""
    falling = sorted(sizes(book), reverse=True)
    best = 0
    for k in range(1, (len(falling) + 1) // 2 + 1):
        if falling[2 * k - 2] >= k:
            best = k
    return best
