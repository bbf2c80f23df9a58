"""Dials, their places, and the moves by which they are turned on; a move as a plan, and moves as a book."""

from pairpicks.checks import is_from, is_number
from pairpicks.errors import BadDials, BadMove, BadMoves, BadPlace
from pairpicks.plans import LAST, MOST_PLANS

MOST_DIALS = 3


def are_dials(thing):
    """Tell whether any value is a tuple of one to three sizes from 2 to 8 with a product of at most 8."""
    if not isinstance(thing, tuple) or not 1 <= len(thing) <= MOST_DIALS:
        return False
    many = 1
    for size in thing:
        if not is_from(size, 2, LAST + 1):
            return False
        many = many * size
    return many <= LAST + 1


def need_dials(dials):
    """Raise BadDials for what are no dials."""
    if not are_dials(dials):
        raise BadDials("dials are one to three numbers from 2 to 8 with a product of at most 8")


def is_place(dials, thing):
    """Tell whether any value is a place of the dials."""
    if not isinstance(thing, tuple) or len(thing) != len(dials):
        return False
    return all([is_number(part) and 0 <= part < size for part, size in zip(thing, dials)])


def are_moves(dials, thing):
    """Tell whether any value is a tuple of none to sixteen moves."""
    if not isinstance(thing, tuple) or len(thing) > MOST_PLANS:
        return False
    return all([is_place(dials, move) for move in thing])


def need_move(dials, move):
    """Raise BadMove for what is no move of the dials."""
    if not is_place(dials, move):
        raise BadMove("a move is a tuple with a number below each size")


def need_moves(dials, moves):
    """Raise BadDials for what are no dials, and BadMoves for what are no moves of them."""
    need_dials(dials)
    if not are_moves(dials, moves) or moves == ():
        raise BadMoves("moves are a tuple of one to sixteen moves")


def nothing(dials):
    """Return the place of zeros."""
    return (0,) * len(dials)


def plus(dials, one, other):
    """Return what the two places add up to."""
    return tuple([(a + b) % size for a, b, size in zip(one, other, dials)])


def less(dials, one, other):
    """Return the place one less the place other."""
    return tuple([(a - b) % size for a, b, size in zip(one, other, dials)])


def many_places(dials):
    """Return n, the product of the sizes."""
    many = 1
    for size in dials:
        many = many * size
    return many


def place_number(dials, place):
    """Return the number of the place."""
    number = 0
    for part, size in zip(place, dials):
        number = number * size + part
    return number


def places(dials):
    """Return the ascending list of all places."""
    need_dials(dials)
    found = [()]
    for size in dials:
        found = [place + (part,) for place in found for part in range(size)]
    return found


def moved(dials, place, move):
    """Return the place to which the move leads from this one."""
    need_dials(dials)
    if not is_place(dials, place):
        raise BadPlace("a place is a tuple with a number below each size")
    need_move(dials, move)
    return plus(dials, place, move)


def turns_of(dials, move):
    """Return the least number of times, from 1 on, that the move is nothing."""
    need_dials(dials)
    need_move(dials, move)
    turns = 1
    total = move
    while total != nothing(dials):
        turns += 1
        total = plus(dials, total, move)
    return turns


def is_one_ring(dials):
    """Tell whether some move has n turns."""
    need_dials(dials)
    return many_places(dials) in [turns_of(dials, move) for move in places(dials)]


def total_of(dials, moves):
    """Return what the moves add up to."""
    need_moves(dials, moves)
    total = nothing(dials)
    for move in moves:
        total = plus(dials, total, move)
    return total


def plan_of_move(dials, move):
    """Return the plan that pairs each place with the one to which the move leads, by their numbers."""
    return tuple([(number, place_number(dials, plus(dials, place, move)))
                  for number, place in enumerate(places(dials))])


def move_plan(dials, move):
    """Return the plan of n pairs of the move."""
    need_dials(dials)
    need_move(dials, move)
    return plan_of_move(dials, move)


def move_book(dials, moves):
    """Return the book of the plans of the moves."""
    need_moves(dials, moves)
    return tuple([plan_of_move(dials, move) for move in moves])
