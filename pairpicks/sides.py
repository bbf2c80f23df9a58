"""One plan's pairs out of many plans: all of them, or some that stand in too few plans."""

from pairpicks.checks import ascending
from pairpicks.errors import BadPlan
from pairpicks.matching import in_want, matched
from pairpicks.picks import is_pick
from pairpicks.plans import is_plan, need_book


def need_side(book, side):
    """Raise BadBook for what is no book, and BadPlan for what is no plan with a pair."""
    need_book(book)
    if not is_plan(side) or side == ():
        raise BadPlan("a side is a plan with one pair or more")


def holders(book, side):
    """Return the dict from the pairs of the side to the lists of the numbers of the plans that have them."""
    return {pair: [number for number in range(len(book)) if pair in book[number]] for pair in side}


def is_short(book, lot):
    """Tell whether fewer plans of the book have a pair of the lot than the lot has pairs."""
    having = [plan for plan in book if any([pair in plan for pair in lot])]
    return len(having) < len(lot)


def side_pick(book, side):
    """Return a pick that has just the pairs of the side; None if there is none."""
    need_side(book, side)
    pick = matched(holders(book, side))
    return ascending(pick) if len(pick) == len(side) else None


def is_side_pick(book, side, thing):
    """Tell whether any value is a pick that has just the pairs of the side."""
    need_side(book, side)
    return is_pick(book, thing) and tuple(sorted(thing.values())) == side


def short_lot(book, side):
    """Return a plan of pairs of the side that fewer plans of the book have than it has pairs; None if there is none."""
    need_side(book, side)
    wishes = holders(book, side)
    # The plans that have a pair of these are fewer: each of them is had by one of these pairs, and one has none.
    lot = tuple(in_want(wishes, matched(wishes)))
    return lot if lot else None


def is_short_lot(book, side, thing):
    """Tell whether any value is a short lot of the side."""
    need_side(book, side)
    if not is_plan(thing) or not all([pair in side for pair in thing]):
        return False
    return is_short(book, thing)


def side_most(book, side):
    """Return the greatest number of pairs of the side in a pick that has no other pairs."""
    need_side(book, side)
    return len(matched(holders(book, side)))
