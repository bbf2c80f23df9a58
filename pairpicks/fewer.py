"""Wide chains, in which all pairs of a plan count at once, and what they make sure of."""

from pairpicks.chains import WIDE, has_end, moved_along, walked, way_to_end
from pairpicks.checks import ascending, is_from
from pairpicks.errors import BadNumber, BadSizes
from pairpicks.picks import need_pick, unused
from pairpicks.plans import LAST, MOST_PLANS


def wide_chain(book, pick, order):
    """Return the list of the triples (number, person, desk) of the pairs that counted."""
    return walked(book, pick, order, WIDE)


def wide_ends(book, pick, order):
    """Tell whether the wide chain ends."""
    return has_end(pick, wide_chain(book, pick, order))


def wide_path(book, pick, order):
    """Return the triples of the wide chain that lead to its end."""
    return way_to_end(pick, wide_chain(book, pick, order))


def wide_grown(book, pick, order):
    """Return the pick with one pair more that comes of the wide path."""
    return moved_along(pick, wide_path(book, pick, order))


def wide_grow(book, pick):
    """Return the list of this pick and those that grow of it by wide chains, the unused plans ascending."""
    need_pick(book, pick)
    picks = [ascending(pick)]
    while wide_ends(book, picks[-1], unused(book, picks[-1])):
        picks.append(wide_grown(book, picks[-1], unused(book, picks[-1])))
    return picks


def are_sizes(thing):
    """Tell whether any value is a tuple of one to sixteen numbers from 0 to 8."""
    if not isinstance(thing, tuple) or not 1 <= len(thing) <= MOST_PLANS:
        return False
    return all([is_from(size, 0, LAST + 1) for size in thing])


def need_sizes(sizes):
    """Raise BadSizes for what are no told sizes."""
    if not are_sizes(sizes):
        raise BadSizes("sizes are a tuple of one to sixteen numbers from 0 to 8")


def beyond(sizes, most):
    """Return how much the sizes are more than this, all those together that are more."""
    return sum([size - most for size in sizes if size > most])


def wide_sure(sizes):
    """Return how many pairs, at least, wide chains bring to any pick of a book with these sizes."""
    need_sizes(sizes)
    falling = sorted(sizes, reverse=True)
    many = 0
    while beyond(falling[many:], many) > many:
        many += 1
    return many


def plans_for(pairs, fewer):
    """Return of how many plans with so many pairs there surely is a pick with so many pairs fewer."""
    if not is_from(pairs, 1, LAST + 1):
        raise BadNumber("pairs is a number from 1 to 8")
    if not is_from(fewer, 0, pairs - 1):
        raise BadNumber("fewer is a number from 0 to pairs - 1")
    return (fewer + 2) * pairs // (fewer + 1) - (fewer + 1)
