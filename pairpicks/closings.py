"""Closings: n of some moves that add up to nothing, and the picks that they are."""

from pairpicks.books import kept
from pairpicks.checks import are_ascending
from pairpicks.errors import BadClosing, BadPick
from pairpicks.moves import many_places, move_book, need_moves, nothing, plus, total_of
from pairpicks.picks import is_pick, pick_of


def is_closing(dials, moves, thing):
    """Tell whether any value is a closing of the moves."""
    need_moves(dials, moves)
    if not are_ascending(thing, len(moves) - 1) or len(thing) != many_places(dials):
        return False
    return total_of(dials, tuple([moves[index] for index in thing])) == nothing(dials)


def closing(dials, moves):
    """Return a closing of the moves; None if there is none."""
    need_moves(dials, moves)
    # One way to each total of so many moves is enough: all of them go on alike.
    ways = {(0, nothing(dials)): ()}
    for index, move in enumerate(moves):
        more = {key: ways[key] for key in ways}
        for many, total in ways:
            more.setdefault((many + 1, plus(dials, total, move)), ways[(many, total)] + (index,))
        ways = more
    return ways.get((many_places(dials), nothing(dials)))


def closings_many(dials, moves):
    """Return how many closings the moves have."""
    need_moves(dials, moves)
    ways = {(0, nothing(dials)): 1}
    for move in moves:
        more = {key: ways[key] for key in ways}
        for many, total in ways:
            key = (many + 1, plus(dials, total, move))
            more[key] = more.get(key, 0) + ways[(many, total)]
        ways = more
    return ways.get((many_places(dials), nothing(dials)), 0)


def closing_by(dials, moves, pick):
    """Return the ascending tuple of the numbers of the pick, which are a closing of the moves."""
    book = move_book(dials, moves)
    if not is_pick(book, pick) or len(pick) != many_places(dials):
        raise BadPick("a pick of n pairs of the book of the moves is due")
    return tuple(sorted(pick))


def pick_by(dials, moves, closing):
    """Return a pick of the book of the moves that has just the numbers of the closing."""
    if not is_closing(dials, moves, closing):
        raise BadClosing("the closing is none of the moves")
    pick = pick_of(kept(move_book(dials, moves), closing), many_places(dials))
    return {closing[number]: pick[number] for number in sorted(pick)}
