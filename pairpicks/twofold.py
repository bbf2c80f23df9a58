"""Books of two plans, each of them many times."""

from pairpicks.checks import is_from
from pairpicks.errors import BadNumber
from pairpicks.picks import pick_of
from pairpicks.plans import need_plan
from pairpicks.rings import pieces

MOST_TIMES = 8


def twofold(one, other, many, more):
    """Return the book of the plan one, many times, then other, more times."""
    need_plan(one)
    need_plan(other)
    if not is_from(many, 0, MOST_TIMES):
        raise BadNumber("many is a number from 0 to 8")
    if not is_from(more, 0, MOST_TIMES) or many + more == 0:
        raise BadNumber("more is a number from 0 to 8, and not 0 if many is 0")
    return (one,) * many + (other,) * more


def takings(one, other, piece):
    """Return the list of the pairs (x, y), such that x pairs of one and y of other can be taken in the piece."""
    persons, _, kind = piece
    p = len([pair for pair in one if pair[0] in persons])
    q = len([pair for pair in other if pair[0] in persons])
    mixed = p - 1 if kind == "ring" else min(p, q)
    found = [(x, y) for x in range(p + 1) for y in range(q + 1) if x + y <= mixed]
    return found + [(p, 0), (0, q)]


def twofold_most(one, other, many, more):
    """Return how many pairs the greatest picks of the twofold book have."""
    twofold(one, other, many, more)
    sums = {(0, 0): True}
    for piece in pieces(one, other):
        found = {}
        for x, y in takings(one, other, piece):
            for a, b in sums:
                if a + x <= many and b + y <= more:
                    found[(a + x, b + y)] = True
        sums = found
    return max([a + b for a, b in sums])


def twofold_pick(one, other, many, more):
    """Return a pick of the twofold book with as many pairs as can be."""
    return pick_of(twofold(one, other, many, more), twofold_most(one, other, many, more))
