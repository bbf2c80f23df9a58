"""What several plans hold together: the greatest plan out of all their pairs, and how far plans fall short of it."""

from itertools import combinations

from pairpicks.checks import are_ascending
from pairpicks.errors import BadNumbers
from pairpicks.greatest import need_few_plans
from pairpicks.matching import in_want, matched
from pairpicks.plans import LAST, need_book


def need_numbers(book, numbers):
    """Raise BadBook for what is no book, and BadNumbers for what are no numbers of one or more of its plans."""
    need_book(book)
    if not are_ascending(numbers, len(book) - 1) or numbers == ():
        raise BadNumbers("numbers are an ascending tuple of one or more numbers of plans")


def desks_by_person(book, numbers):
    """Return the ascending dict from the persons of these plans to the ascending lists of the desks they have there."""
    pairs = sorted({pair for number in numbers for pair in book[number]})
    wishes = {}
    for person, desk in pairs:
        wishes.setdefault(person, []).append(desk)
    return wishes


def union_plan(book, numbers):
    """Return a plan with as many pairs as can be, each of which stands in one or more of these plans."""
    need_numbers(book, numbers)
    owners = matched(desks_by_person(book, numbers))
    return tuple(sorted([(person, desk) for desk, person in owners.items()]))


def union_size(book, numbers):
    """Return how many pairs the union plan has."""
    return len(union_plan(book, numbers))


def is_cover(book, numbers, thing):
    """Tell whether any value is persons and desks, such that each pair of these plans has one of them."""
    need_numbers(book, numbers)
    if not isinstance(thing, tuple) or len(thing) != 2:
        return False
    persons, desks = thing
    if not are_ascending(persons, LAST) or not are_ascending(desks, LAST):
        return False
    return all([pair[0] in persons or pair[1] in desks for number in numbers for pair in book[number]])


def cover(book, numbers):
    """Return a pair (persons, desks) with as few members as can be, such that each pair of these plans has one."""
    need_numbers(book, numbers)
    wishes = desks_by_person(book, numbers)
    # Who is in want is covered by the desks, each of which is had by one of them; who is not has a desk beside these.
    wanting = in_want(wishes, matched(wishes))
    persons = tuple([person for person in wishes if person not in wanting])
    return persons, tuple(sorted({desk for person in wanting for desk in wishes[person]}))


def lots(many):
    """Return the list of all lots of one or more of so many plans, fewer plans first, then ascending."""
    found = []
    for size in range(1, many + 1):
        found.extend(list(combinations(range(many), size)))
    return found


def lack_of(book, lot):
    """Return how many plans the lot has more than half of its union size, the half rounded up."""
    return len(lot) - (union_size(book, lot) + 1) // 2


def need_few_for_lack(book):
    """Raise the errors of lack."""
    need_book(book)
    need_few_plans(book)


def lack(book):
    """Return how many plans more than half of their union size, at most, some lot of plans has."""
    need_few_for_lack(book)
    return max([0] + [lack_of(book, lot) for lot in lots(len(book))])


def lacking(book):
    """Return the first lot that has as many plans more as lack tells; () if lack is 0."""
    most = lack(book)
    if most == 0:
        return ()
    return [lot for lot in lots(len(book)) if lack_of(book, lot) == most][0]
