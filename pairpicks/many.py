"""All picks of a small book with so many pairs, listed and counted."""

from pairpicks.checks import ascending, is_from
from pairpicks.errors import BadSize, TooMany
from pairpicks.greatest import need_few, need_small
from pairpicks.picks import bits_of, clashing
from pairpicks.plans import LAST, need_book

MOST_PICKS = 1000


def need_size(book, size):
    """Raise the errors of picks_many."""
    need_book(book)
    if not is_from(size, 0, LAST + 1):
        raise BadSize("a size is a number from 0 to 8")
    need_few(book)


def counts(book):
    """Return the dict from how many pairs picks have to how many such picks there are."""
    # Picks with the same persons and desks go on in the same ways: they are counted together.
    ways = {(0, 0): 1}
    for plan in book:
        more = {key: ways[key] for key in ways}
        for size, taken in ways:
            for pair in plan:
                bits = bits_of(pair)
                if taken & bits == 0:
                    key = (size + 1, taken | bits)
                    more[key] = more.get(key, 0) + ways[(size, taken)]
        ways = more
    found = {}
    for size, taken in ways:
        found[size] = found.get(size, 0) + ways[(size, taken)]
    return found


def extended(book, number, size, taken):
    """Return the ascending list of the picks of so many pairs, none of them taken, from the plan with the number on."""
    if size == 0:
        return [{}]
    found = []
    for first in range(number, len(book) - size + 1):
        for pair in book[first]:
            if clashing(taken, pair) == []:
                for rest in extended(book, first + 1, size - 1, taken + [pair]):
                    found.append({first: pair, **rest})
    return found


def need_listable(book, size):
    """Raise TooMany if the book has more picks of so many pairs than are listed."""
    if counts(book).get(size, 0) > MOST_PICKS:
        raise TooMany(MOST_PICKS)


def picks(book, size):
    """Return the ascending list of all picks with so many pairs."""
    need_size(book, size)
    need_listable(book, size)
    return extended(book, 0, size, [])


def picks_many(book, size):
    """Return how many picks have so many pairs."""
    need_size(book, size)
    return counts(book).get(size, 0)


def tally(book):
    """Return the dict from each number up to greatest to how many picks have so many pairs."""
    need_small(book)
    return ascending(counts(book))
