"""Lone books with one plan more, or with another plan in the place of one."""

from pairpicks.checks import ascending, is_from
from pairpicks.errors import BadNumber, BadPair
from pairpicks.lone import need_lone, spared, spared_many, told_lone
from pairpicks.plans import is_pair, need_plan


def freed(book, pair):
    """Return the list of the pairs of a person and a desk of the book that the others can do without.

    The others are the pairs that a pick has besides this pair.
    """
    persons, desks, _ = told_lone(book)
    person, desk = pair
    if person in persons:
        persons = (person,)
    if desk in desks:
        desks = (desk,)
    return [(p, d) for p in persons for d in desks]


def completed(book, number, pair, spare):
    """Return the pick that has the pair at the number, and the pairs of the plan spared for spare elsewhere."""
    person, desk = spare
    pick = {number: pair}
    for each in spared(book, person, desk):
        left = [k for k in range(len(book)) if k not in pick and each in book[k]]
        pick[left[0]] = each
    return ascending(pick)


def need_lone_and_pair(book, pair):
    """Raise the errors of with_more."""
    need_lone(book)
    if not is_pair(pair):
        raise BadPair("a pair is a tuple of a person and a desk")


def with_more(book, pair):
    """Return a pick of k pairs of the lone book with this pair's plan behind."""
    need_lone_and_pair(book, pair)
    return completed(book, len(book), pair, freed(book, pair)[0])


def more_many(book, pair):
    """Return how many picks of k pairs the lone book with this pair's plan behind has."""
    need_lone_and_pair(book, pair)
    return sum([spared_many(book, person, desk) for person, desk in freed(book, pair)])


def need_change(book, number, plan):
    """Raise the errors of with_changed."""
    need_lone(book)
    if not is_from(number, 0, len(book) - 1):
        raise BadNumber("the number is that of no plan")
    need_plan(plan)


def with_changed(book, number, plan):
    """Return the book with this plan in the place of the one with the number."""
    need_change(book, number, plan)
    return book[:number] + (plan,) + book[number + 1:]


def changed_pick(book, number, plan):
    """Return a pick of k pairs of the book that with_changed tells; None if there is none."""
    need_change(book, number, plan)
    gone = book[number]
    news = [pair for pair in plan if pair not in gone]
    if len(news) == 0:
        return None
    # Who stand together in a pair of the plan that is gone leave k - 1 pairs
    # of this plan to the others, for which there is one plan too few now.
    spares = [spare for spare in freed(book, news[0]) if spare not in gone]
    return completed(book, number, news[0], spares[0])
