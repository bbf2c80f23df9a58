"""Steps, which lead from a pick to another one by one pair at a time, and closed lots, which no step leaves."""

from pairpicks.checks import ascending
from pairpicks.errors import BadPick
from pairpicks.greatest import need_few
from pairpicks.many import need_listable
from pairpicks.picks import clashing, is_pick, need_pick
from pairpicks.plans import need_book


def key_of(pick):
    """Return the tuple of the pairs (number, pair) of the pick, by which picks are in sequence."""
    return tuple(sorted(pick.items()))


def steps_from(book, pick):
    """Return the ascending list of the keys of all picks to which a step leads from this one."""
    found = []
    for gone in pick:
        left = [(number, pair) for number, pair in pick.items() if number != gone]
        taken = [pair for number, pair in left]
        for number in range(len(book)):
            if number == gone or number not in pick:
                news = [pair for pair in book[number] if clashing(taken, pair) == []]
                found.extend([tuple(sorted(left + [(number, pair)])) for pair in news])
    # The pick itself comes of each of its plans, every other pick of one of them alone.
    return sorted([key for key in found if key != key_of(pick)])


def near_picks(book, pick):
    """Return the ascending list of all picks to which a step leads from this one."""
    need_pick(book, pick)
    return [dict(key) for key in steps_from(book, pick)]


def spread(book, pick):
    """Return the dict from the keys of all picks to which a way leads from this one to the keys one step ahead.

    The nearer ones come first, so that going back from a key to the key ahead of it is a shortest way.
    """
    ahead = {key_of(pick): None}
    waiting = [key_of(pick)]
    while waiting:
        later = []
        for key in waiting:
            for near in steps_from(book, dict(key)):
                if near not in ahead:
                    ahead[near] = key
                    later.append(near)
        waiting = later
    return ahead


def way_to(book, one, other):
    """Return a list of picks, as short as can be, from one to other, each next one by a step; None if there is none."""
    need_pick(book, one)
    if not is_pick(book, other) or len(other) != len(one):
        raise BadPick("other is a pick with as many pairs as one")
    need_few(book)
    need_listable(book, len(one))
    ahead = spread(book, one)
    if key_of(other) not in ahead:
        return None
    way = []
    key = key_of(other)
    while key is not None:
        way.append(dict(key))
        key = ahead[key]
    return way[::-1]


def lot_of(book, pick):
    """Return the closed lot of all picks to which a way leads from this one."""
    need_pick(book, pick)
    need_few(book)
    need_listable(book, len(pick))
    return [dict(key) for key in sorted(spread(book, pick))]


def are_alike(book, thing):
    """Tell whether any value is a list of one or more picks of the book with equally many pairs."""
    if not isinstance(thing, (list, tuple)) or len(thing) == 0:
        return False
    for pick in thing:
        if not is_pick(book, pick) or len(pick) != len(thing[0]):
            return False
    return True


def is_closed(book, thing):
    """Tell whether any value is a closed lot of the book."""
    need_book(book)
    if not are_alike(book, thing):
        return False
    keys = [key_of(pick) for pick in thing]
    lot = {key: True for key in keys}
    if keys != sorted(lot):
        return False
    for pick in thing:
        if not all([key in lot for key in steps_from(book, pick)]):
            return False
    return True
