"""Lone books: two plans that make one ring of k persons, k - 1 times each."""

from itertools import combinations, permutations
from math import comb, factorial, perm

from pairpicks.checks import are_ascending, is_from, is_number
from pairpicks.errors import BadDesk, BadLone, BadNumber, BadNumbers, BadPerson, BadRow, TooMany
from pairpicks.plans import LAST, is_book, need_book
from pairpicks.rings import are_ring, ring_of, row_of

MOST_LISTED = 3


def is_lone(thing):
    """Tell whether any value is a lone book."""
    if not is_book(thing):
        return False
    one = thing[0]
    others = [plan for plan in thing if plan != one]
    half = len(one) - 1
    if len(thing) != 2 * half or len(others) != half or others.count(others[0]) != half:
        return False
    return are_ring(one, others[0])


def need_lone(book):
    """Raise BadBook for what is no book, and BadLone for a book that is not lone."""
    need_book(book)
    if not is_lone(book):
        raise BadLone("the book is not two plans that make one ring, k - 1 times each")


def laid_out(one, other, numbers):
    """Return the book in which the plans with these numbers are one, and as many others are other."""
    return tuple([one if number in numbers else other for number in range(2 * len(numbers))])


def lone_of(persons, desks, numbers):
    """Return the lone book whose plans with these numbers are the first one of ring_of."""
    one, other = ring_of(persons, desks)
    half = len(persons) - 1
    if not are_ascending(numbers, 2 * half - 1) or len(numbers) != half:
        raise BadNumbers("numbers are an ascending tuple of k - 1 numbers from 0 to 2 * k - 3")
    return laid_out(one, other, numbers)


def told_lone(book):
    """Return the triple for which lone_of tells the book, with 0 among the numbers."""
    need_lone(book)
    numbers = [number for number in range(len(book)) if book[number] == book[0]]
    others = [plan for plan in book if plan != book[0]]
    persons, desks = row_of(book[0], others[0])
    return persons, desks, tuple(numbers)


def lone_many(k):
    """Return how many lone books have k given persons and k given desks."""
    if not is_from(k, 2, LAST + 1):
        raise BadNumber("k is a number from 2 to 8")
    return comb(2 * k - 2, k - 1) * factorial(k) * factorial(k - 1) // 2


def chosen(many, part):
    """Return the tuples of so many numbers below many that have 0 among them."""
    return [numbers for numbers in combinations(range(many), part) if numbers[0] == 0]


def lones(persons, desks):
    """Return the ascending list of all lone books with just these persons and desks."""
    if not are_ascending(persons, LAST) or len(persons) < 2:
        raise BadRow("persons are an ascending tuple of two to eight unlike persons")
    if not are_ascending(desks, LAST) or len(desks) != len(persons):
        raise BadRow("desks are an ascending tuple of as many unlike desks")
    if len(persons) > MOST_LISTED:
        raise TooMany(MOST_LISTED)
    plans = [tuple(zip(persons, row)) for row in permutations(list(desks))]
    half = len(persons) - 1
    books = []
    for one in plans:
        for other in plans:
            if are_ring(one, other):
                books.extend([laid_out(one, other, numbers) for numbers in chosen(2 * half, half)])
    return sorted(books)


def need_spared(book, person, desk):
    """Raise the errors of spared."""
    persons, desks, _ = told_lone(book)
    if not is_number(person) or person not in persons:
        raise BadPerson("the person is none of the book")
    if not is_number(desk) or desk not in desks:
        raise BadDesk("the desk is none of the book")


def spared(book, person, desk):
    """Return the plan of k - 1 pairs of the lone book's plans without this person and this desk."""
    need_spared(book, person, desk)
    persons, desks, _ = told_lone(book)
    many = len(persons)
    at = persons.index(person)
    # From the person on round the ring each person has the desk of one, until
    # this desk comes, which is spared: from there on each has the desk ahead.
    ahead = 0
    pairs = []
    for k in range(at + 1, at + many):
        if desks[k % many] == desk:
            ahead = 1
        pairs.append((persons[k % many], desks[(k + ahead) % many]))
    return tuple(sorted(pairs))


def spared_many(book, person, desk):
    """Return how many picks of the lone book come to the plan that spared tells."""
    plan = spared(book, person, desk)
    half = len(plan)
    of_one = len([pair for pair in plan if pair in book[0]])
    return perm(half, of_one) * perm(half, half - of_one)
