"""Hours for all pairs of a web, each out of the pair's own menu, such that pairs that touch have unlike hours."""

from pairpicks.checks import are_ascending, ascending, is_number
from pairpicks.errors import BadMenus, BadPair, TooMany
from pairpicks.plans import is_pair
from pairpicks.trails import beside
from pairpicks.webs import are_unlike_where_touching, beats, is_dict_over, need_hues, need_web, settled_in

LAST_HOUR = 9
MOST_CHOSEN = 10
MOST_IN_TREE = 8


def are_menus(web, thing):
    """Tell whether any value are menus of the web."""
    need_web(web)
    return is_dict_over(web, thing) and all([are_ascending(thing[pair], LAST_HOUR) for pair in thing])


def need_menus(web, menus):
    """Raise BadWeb for what is no web, and BadMenus for what are no menus of it."""
    if not are_menus(web, menus):
        raise BadMenus("menus are ascending tuples of hours from 0 to 9 for all pairs")


def is_choice(web, menus, thing):
    """Tell whether any value is a choice out of the menus."""
    need_menus(web, menus)
    if not is_dict_over(web, thing):
        return False
    for pair in web:
        if not is_number(thing[pair]) or thing[pair] not in menus[pair]:
            return False
    return are_unlike_where_touching(web, thing)


def assigned(web, hues, menus):
    """Return the dict from the pairs to the hours that come hour by hour, by settled plans."""
    need_hues(web, hues)
    need_menus(web, menus)
    found = {}
    for hour in range(LAST_HOUR + 1):
        lot = [pair for pair in web if pair not in found and hour in menus[pair]]
        for pair in settled_in(hues, lot):
            found[pair] = hour
    return ascending(found)


def rivals(web, hues, pair):
    """Return how many pairs of the web beat this one."""
    need_hues(web, hues)
    if not is_pair(pair) or pair not in web:
        raise BadPair("the pair is none of the web")
    return len([other for other in web if beats(hues, other, pair)])


def tight_in(left, pairs):
    """Return the list of those of the pairs that have no more hours left than others of them touch them."""
    return [pair for pair in pairs if len(left[pair]) <= len(beside(pairs, pair))]


def scarcest(left):
    """Return the pair of those left that is to have an hour next."""
    pairs = list(left)
    tight = tight_in(left, pairs)
    # What is not tight can wait for the others: whatever hours they have, one of its own is left for it.
    while tight and len(tight) < len(pairs):
        pairs = tight
        tight = tight_in(left, pairs)
    return min([(len(left[pair]), pair) for pair in pairs])[1]


def behind(left, pair, hour):
    """Return what is left of the menus if this pair has this hour."""
    touched = beside(list(left), pair)
    rest = {}
    for each in left:
        if each in touched:
            rest[each] = tuple([other for other in left[each] if other != hour])
        elif each != pair:
            rest[each] = left[each]
    return rest


def choice_from(left):
    """Return a choice out of what is left of the menus; None if there is none."""
    if left == {}:
        return {}
    pair = scarcest(left)
    for hour in left[pair]:
        rest = choice_from(behind(left, pair, hour))
        if rest is not None:
            return {**rest, pair: hour}
    return None


def need_few_pairs(web, most):
    """Raise TooMany for a web of more pairs than these."""
    if len(web) > most:
        raise TooMany(most)


def choice(web, menus):
    """Return a choice out of the menus; None if there is none."""
    need_menus(web, menus)
    need_few_pairs(web, MOST_CHOSEN)
    found = choice_from(menus)
    return None if found is None else ascending(found)


def tree_from(left):
    """Return a tree of cases for what is left of the menus, of which there is no choice."""
    pair = scarcest(left)
    return pair, {hour: tree_from(behind(left, pair, hour)) for hour in left[pair]}


def choice_tree(web, menus):
    """Return a tree of cases; None if there is a choice."""
    need_menus(web, menus)
    need_few_pairs(web, MOST_IN_TREE)
    return tree_from(menus) if choice_from(menus) is None else None


def is_choice_tree(web, menus, thing):
    """Tell whether any value is a tree of cases."""
    need_menus(web, menus)
    return is_tree_from(menus, thing)


def is_tree_from(left, thing):
    """Tell whether any value is a tree of cases for what is left of the menus."""
    if not isinstance(thing, tuple) or len(thing) != 2:
        return False
    pair, branches = thing
    if not is_pair(pair) or pair not in left or not isinstance(branches, dict) or len(branches) != len(left[pair]):
        return False
    for hour in branches:
        if not is_number(hour) or hour not in left[pair]:
            return False
        if not is_tree_from(behind(left, pair, hour), branches[hour]):
            return False
    return True
