"""Growing: a pick grows by one chain after the other."""

from pairpicks.chains import ends, grown
from pairpicks.checks import ascending, is_order_below
from pairpicks.errors import BadOrders
from pairpicks.picks import need_pick, unused


def grow(book, pick):
    """Return the list of this pick and those that grow of it, the unused plans ascending."""
    need_pick(book, pick)
    picks = [ascending(pick)]
    while ends(book, picks[-1], unused(book, picks[-1])):
        picks.append(grown(book, picks[-1], unused(book, picks[-1])))
    return picks


def are_orders(book, thing):
    """Tell whether any value is a list of tuples with each number of the plans once."""
    if not isinstance(thing, (list, tuple)):
        return False
    for order in thing:
        if not is_order_below(order, len(book)):
            return False
    return True


def grow_by(book, pick, orders):
    """Return the list of this pick and those that grow of it, the unused plans as in the orders."""
    need_pick(book, pick)
    if not are_orders(book, orders):
        raise BadOrders("orders are a list of tuples with each number of the plans once")
    picks = [ascending(pick)]
    for order in orders:
        last = picks[-1]
        left = tuple([number for number in order if number not in last])
        if not ends(book, last, left):
            return picks
        picks.append(grown(book, last, left))
    return picks
