"""Close books, which lack one plan at most, and full books, which lack none."""

from pairpicks.errors import BadClose, BadFull
from pairpicks.lone import is_lone
from pairpicks.picks import pick_of
from pairpicks.plans import is_book, need_book


def all_have(book, many):
    """Tell whether each plan of the book has so many pairs or more."""
    return all([len(plan) >= many for plan in book])


def is_close(thing):
    """Tell whether any value is a book of 2 * k - 2 plans of k pairs or more, k from 2 to 8."""
    if not is_book(thing) or len(thing) not in (2, 4, 6, 8, 10, 12, 14):
        return False
    return all_have(thing, len(thing) // 2 + 1)


def is_full(thing):
    """Tell whether any value is a book of 2 * k - 1 plans of k pairs or more, k from 2 to 8."""
    if not is_book(thing) or len(thing) not in (3, 5, 7, 9, 11, 13, 15):
        return False
    return all_have(thing, (len(thing) + 1) // 2)


def close_pick(book):
    """Return a pick of k pairs of the close book; None if there is none."""
    need_book(book)
    if not is_close(book):
        raise BadClose("the book is not one of 2 * k - 2 plans of k pairs or more")
    if is_lone(book):
        return None
    return pick_of(book, len(book) // 2 + 1)


def left_lone(book):
    """Return the ascending tuple of the numbers of the plans without which the full book is lone."""
    need_book(book)
    if not is_full(book):
        raise BadFull("the book is not one of 2 * k - 1 plans of k pairs or more")
    return tuple([number for number in range(len(book)) if is_lone(book[:number] + book[number + 1:])])
