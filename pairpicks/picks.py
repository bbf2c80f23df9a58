"""Picks: one pair each out of some plans of a book, all of them together a plan."""

from pairpicks.checks import are_ascending, ascending, is_from
from pairpicks.errors import BadNumber, BadNumbers, BadPair, BadPick, Clash
from pairpicks.plans import LAST, are_apart, is_pair, need_book


def is_pick(book, thing):
    """Tell whether any value is a pick of the book."""
    need_book(book)
    if not isinstance(thing, dict):
        return False
    for number in thing:
        if not is_from(number, 0, len(book) - 1):
            return False
        if not is_pair(thing[number]) or thing[number] not in book[number]:
            return False
    return are_apart(list(thing.values()))


def need_pick(book, pick):
    """Raise BadBook for what is no book, and BadPick for what is no pick of it."""
    if not is_pick(book, pick):
        raise BadPick("a pick is a dict from numbers of plans to pairs of them, which are a plan")


def plan_of(book, pick):
    """Return the plan of the pairs of the pick."""
    need_pick(book, pick)
    return tuple(sorted(pick.values()))


def unused(book, pick):
    """Return the ascending tuple of the numbers of the unused plans."""
    need_pick(book, pick)
    return tuple([number for number in range(len(book)) if number not in pick])


def openings(book, pick):
    """Return the list of the pairs of unused plans that can be put to the pick, with their numbers."""
    taken = plan_of(book, pick)
    found = []
    for number in unused(book, pick):
        for person, desk in book[number]:
            if clashing(taken, (person, desk)) == []:
                found.append((number, person, desk))
    return found


def clashing(pairs, pair):
    """Return those of the pairs that have the person or the desk of this pair."""
    return [each for each in pairs if each[0] == pair[0] or each[1] == pair[1]]


def with_pair(book, pick, number, pair):
    """Return the pick with this pair of the plan with this number, too."""
    need_pick(book, pick)
    if not is_from(number, 0, len(book) - 1) or number in pick:
        raise BadNumber("the number is not that of an unused plan")
    if not is_pair(pair) or pair not in book[number]:
        raise BadPair("the pair is none of the plan")
    for used in sorted(pick):
        if clashing([pick[used]], pair):
            raise Clash(used)
    return ascending({**pick, number: pair})


def without(book, pick, numbers):
    """Return the pick without these numbers."""
    need_pick(book, pick)
    if not are_ascending(numbers, len(book) - 1) or not all([number in pick for number in numbers]):
        raise BadNumbers("numbers are an ascending tuple of numbers that the pick has")
    return {number: pick[number] for number in sorted(pick) if number not in numbers}


def bits_of(pair):
    """Return the number in which one bit stands for the person of the pair, and one for its desk."""
    return (1 << pair[0]) | (1 << (LAST + 1 + pair[1]))


def pick_of(book, many):
    """Return a pick of the book with so many pairs; None if there is none."""
    return search(book, 0, many, 0, {})


def search(book, number, many, taken, dead):
    """Return a pick of so many pairs out of the plans from the number on; None if there is none.

    In taken are the bits of the persons and desks that no pair may have.
    """
    if many == 0:
        return {}
    # Many ways lead to the same persons and desks: dead spares going on twice from there.
    if len(book) - number < many or (number, taken) in dead:
        return None
    for pair in book[number]:
        bits = bits_of(pair)
        if taken & bits == 0:
            rest = search(book, number + 1, many - 1, taken | bits, dead)
            if rest is not None:
                return {number: pair, **rest}
    rest = search(book, number + 1, many, taken, dead)
    if rest is None:
        dead[(number, taken)] = True
    return rest
