"""What all greatest picks of a small book use, what none of them has, and which plans they leave unused."""

from itertools import combinations

from pairpicks.greatest import barred, greatest
from pairpicks.guards import NO_MEMBERS, left_over
from pairpicks.picks import pick_of
from pairpicks.plans import LAST


def falls_short(book, members, many):
    """Tell whether the book, barred by these members, has no pick of so many pairs."""
    numbers, persons, desks = members
    return pick_of(barred(book, numbers, persons, desks), many) is None


def always(book):
    """Return the triple of the numbers, the persons and the desks that stand in each greatest pick."""
    most = greatest(book)
    numbers = [number for number in range(len(book)) if falls_short(book, ((number,), (), ()), most)]
    persons = [person for person in range(LAST + 1) if falls_short(book, ((), (person,), ()), most)]
    desks = [desk for desk in range(LAST + 1) if falls_short(book, ((), (), (desk,)), most)]
    return tuple(numbers), tuple(persons), tuple(desks)


def never(book):
    """Return the list of the triples (number, person, desk) that stand in no greatest pick."""
    most = greatest(book)
    found = []
    for number, person, desk in left_over(book, NO_MEMBERS):
        # A greatest pick with this pair has its other pairs beside the pair's plan, person and desk.
        if falls_short(book, ((number,), (person,), (desk,)), most - 1):
            found.append((number, person, desk))
    return found


def parts(many, size):
    """Return the ascending list of the ascending tuples of so many numbers below many."""
    return list(combinations(range(many), size))


def spare(book):
    """Return the list of the tuples of the plans that some greatest pick leaves unused."""
    most = greatest(book)
    found = []
    for numbers in parts(len(book), len(book) - most):
        # A pick of the other plans alone that has so many pairs is full: it leaves just these unused.
        if not falls_short(book, (numbers, (), ()), most):
            found.append(numbers)
    return found
