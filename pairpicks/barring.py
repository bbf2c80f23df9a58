"""Free moves, of which none add up to nothing; how many moves always have a closing; barrings, which have none."""

from pairpicks.closings import closing
from pairpicks.errors import NotAcross
from pairpicks.moves import are_moves, is_one_ring, less, many_places, need_dials, need_move, nothing, places, plus
from pairpicks.moves import turns_of


def is_free(dials, thing):
    """Tell whether any value is a tuple of at most sixteen moves, no one or more of which add up to nothing."""
    need_dials(dials)
    if not are_moves(dials, thing):
        return False
    totals = {}
    for move in thing:
        ahead = [nothing(dials)] + list(totals)
        for total in ahead:
            totals[plus(dials, total, move)] = True
    return nothing(dials) not in totals


def free_most(dials):
    """Return how many moves are free at most."""
    return len(free_moves(dials))


def single(dials, dial):
    """Return the move that turns on this dial alone, by one."""
    return tuple([1 if at == dial else 0 for at in range(len(dials))])


def free_moves(dials):
    """Return a tuple of as many free moves as can be."""
    need_dials(dials)
    many = many_places(dials)
    if is_one_ring(dials):
        full = [move for move in places(dials) if turns_of(dials, move) == many]
        return (full[0],) * (many - 1)
    moves = []
    for dial, size in enumerate(dials):
        moves.extend([single(dials, dial)] * (size - 1))
    return tuple(moves)


def always_closing(dials):
    """Return the least number such that any so many moves have a closing."""
    need_dials(dials)
    return many_places(dials) + free_most(dials)


def never_closing(dials):
    """Return a tuple of one move fewer than always have a closing, which have none."""
    need_dials(dials)
    # With fewer than n times nothing some free moves would have to come to nothing.
    return (nothing(dials),) * (many_places(dials) - 1) + free_moves(dials)


def is_barring(dials, thing):
    """Tell whether any value is a tuple of 2 * n - 2 moves that have no closing."""
    need_dials(dials)
    if not are_moves(dials, thing) or len(thing) != 2 * many_places(dials) - 2:
        return False
    return closing(dials, thing) is None


def barring(dials, one, other):
    """Return the barring of n - 1 times one, then n - 1 times other."""
    need_dials(dials)
    need_move(dials, one)
    need_move(dials, other)
    many = many_places(dials)
    if turns_of(dials, less(dials, one, other)) != many:
        raise NotAcross("one less other has not n turns")
    return (one,) * (many - 1) + (other,) * (many - 1)
