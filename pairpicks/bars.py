"""Books within the two plans of a ring, and the bars that show why they fail."""

from pairpicks.errors import NoRing, NotWithin
from pairpicks.plans import is_plan, need_book, need_plan
from pairpicks.rings import are_ring
from pairpicks.sides import is_short_lot, short_lot


def has_only(plan, pairs):
    """Tell whether the plan has only pairs of these."""
    return all([pair in pairs for pair in plan])


def strays(book, one, other):
    """Return the list of the numbers of the plans that have neither only pairs of one nor only pairs of other."""
    return [k for k in range(len(book)) if not has_only(book[k], one) and not has_only(book[k], other)]


def is_within(book, one, other):
    """Tell whether the book lies within the two plans."""
    need_book(book)
    need_plan(one)
    need_plan(other)
    return strays(book, one, other) == []


def bar(book, one, other):
    """Return a bar of the book that begins with these two plans; None if there is none."""
    within = is_within(book, one, other)
    if not are_ring(one, other):
        raise NoRing("the two plans do not make one ring")
    if not within:
        raise NotWithin(strays(book, one, other)[0])
    lot = short_lot(book, one)
    more = short_lot(book, other)
    if lot is None or more is None:
        return None
    return one, other, lot, more


def is_bar(book, thing):
    """Tell whether any value is a bar of the book."""
    need_book(book)
    if not isinstance(thing, tuple) or len(thing) != 4:
        return False
    one, other, lot, more = thing
    if not is_plan(one) or not is_plan(other) or not are_ring(one, other) or not is_within(book, one, other):
        return False
    return is_short_lot(book, one, lot) and is_short_lot(book, other, more)
