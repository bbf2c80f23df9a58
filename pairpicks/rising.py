"""Sizes that rise to a number: all books of such sizes have a pick of so many pairs."""

from pairpicks.checks import is_from
from pairpicks.errors import BadNumber, BadSizes, NoRise
from pairpicks.fewer import need_sizes
from pairpicks.picks import pick_of
from pairpicks.plans import LAST, need_book


def need_number(number):
    """Raise BadNumber for what is no number to which sizes may rise."""
    if not is_from(number, 1, LAST + 1):
        raise BadNumber("the number is one from 1 to 8")


def need_sizes_up_to(sizes, number):
    """Raise the errors of sizes, of the number, and BadSizes if some size is greater than the number."""
    need_sizes(sizes)
    need_number(number)
    if max(sizes) > number:
        raise BadSizes("some size is greater than the number")


def shortages(sizes, number):
    """Return the list of how many sizes of s or more there are too few, for each s from 1 to the number."""
    found = []
    for least in range(1, number + 1):
        found.append(2 * number - least - len([size for size in sizes if size >= least]))
    return found


def rise(sizes, number):
    """Tell whether the sizes rise to the number, both being as they must be."""
    return all([many <= 0 for many in shortages(sizes, number)])


def rises(sizes, number):
    """Tell whether the sizes rise to the number."""
    need_sizes(sizes)
    need_number(number)
    return rise(sizes, number)


def short_size(sizes, number):
    """Return the least size of which, or more, there are too few; None if the sizes rise to the number."""
    need_sizes(sizes)
    need_number(number)
    short = [at + 1 for at, many in enumerate(shortages(sizes, number)) if many > 0]
    return short[0] if short else None


def rises_to(sizes):
    """Return the greatest number to which the sizes rise."""
    need_sizes(sizes)
    return max([number for number in range(LAST + 2) if rise(sizes, number)])


def deficit(sizes, number):
    """Return how many sizes number must be put to the sizes, at least, so that they rise to it."""
    need_sizes_up_to(sizes, number)
    return max([0] + shortages(sizes, number))


def rising_pick(book, number):
    """Return a pick of just number pairs of the book whose sizes rise to the number."""
    need_book(book)
    need_number(number)
    if not rise([len(plan) for plan in book], number):
        raise NoRise("the sizes of the book do not rise to the number")
    return pick_of(book, number)
