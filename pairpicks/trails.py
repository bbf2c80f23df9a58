"""Trailing books: laid together, their pairs are trails alone, and no ring."""

from pairpicks.books import times
from pairpicks.checks import ascending
from pairpicks.errors import NotTrailing
from pairpicks.picks import clashing


def is_crowded(pairs):
    """Tell whether some person or some desk stands in more than two of the pairs."""
    persons = [person for person, desk in pairs]
    desks = [desk for person, desk in pairs]
    return any([persons.count(person) > 2 or desks.count(desk) > 2 for person, desk in pairs])


def beside(pairs, pair):
    """Return the other ones of the pairs that have a person or a desk in common with this pair."""
    return [each for each in clashing(pairs, pair) if each != pair]


def trail_from(pairs, end):
    """Return the trail of the pairs that begins with this end pair."""
    trail = [end]
    onward = beside(pairs, end)
    while onward:
        trail.append(onward[0])
        onward = [each for each in beside(pairs, trail[-1]) if each not in trail]
    return trail


def laid(pairs):
    """Return the trails of the ascending pairs, one behind the other; what is in a ring is not among them."""
    line = []
    for pair in pairs:
        if pair not in line and len(beside(pairs, pair)) < 2:
            line.extend(trail_from(pairs, pair))
    return line


def is_trailing(book):
    """Tell whether the pairs of the book are trails."""
    pairs = list(times(book))
    return not is_crowded(pairs) and len(laid(pairs)) == len(pairs)


def trail_line(book):
    """Return the list of the book's pairs, trail by trail."""
    if not is_trailing(book):
        raise NotTrailing("the pairs of the book are not trails alone")
    return laid(list(times(book)))


def trail_pick(book):
    """Return the pick that takes the first pair of the line that it can take, again and again."""
    pick = {}
    # A pair that cannot be taken in its turn cannot be taken later: one way along the line is enough.
    for pair in trail_line(book):
        numbers = [number for number in range(len(book)) if number not in pick and pair in book[number]]
        if numbers and clashing(list(pick.values()), pair) == []:
            pick[numbers[0]] = pair
    return ascending(pick)
