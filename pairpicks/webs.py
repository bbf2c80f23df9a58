"""Webs, which are lots of pairs; their hues; and plans that nobody would leave for a pair of another hue."""

from pairpicks.books import times
from pairpicks.checks import ascending, is_from
from pairpicks.errors import BadHues, BadLot, BadWeb, TooMany
from pairpicks.picks import clashing
from pairpicks.plans import is_pair, is_plan
from pairpicks.trails import beside

MOST_SETTLED = 12


def are_pairs(thing):
    """Tell whether any value is an ascending tuple of unlike pairs."""
    if not isinstance(thing, tuple) or not all([is_pair(pair) for pair in thing]):
        return False
    return list(thing) == sorted(set(thing))


def is_web(thing):
    """Tell whether any value is a web."""
    return are_pairs(thing) and len(thing) > 0


def need_web(web):
    """Raise BadWeb for what is no web."""
    if not is_web(web):
        raise BadWeb("a web is an ascending tuple of one or more unlike pairs")


def web_of(book):
    """Return the web of the pairs of all plans of the book."""
    pairs = tuple(times(book))
    need_web(pairs)
    return pairs


def load_of(web):
    """Return the greatest number of pairs of the web that one person, or one desk, has."""
    persons = [person for person, desk in web]
    desks = [desk for person, desk in web]
    return max([max(persons.count(person), desks.count(desk)) for person, desk in web])


def load(web):
    """Return the greatest number of pairs of the web that one person, or one desk, has."""
    need_web(web)
    return load_of(web)


def is_dict_over(web, thing):
    """Tell whether any value is a dict that has just the pairs of the web for keys."""
    if not isinstance(thing, dict) or len(thing) != len(web):
        return False
    return all([is_pair(pair) and pair in web for pair in thing])


def are_unlike_where_touching(web, numbers):
    """Tell whether the dict has unlike numbers for all pairs of the web that touch."""
    return all([numbers[one] != numbers[other] for one in web for other in beside(web, one)])


def are_hues(web, thing):
    """Tell whether any value are hues of the web."""
    need_web(web)
    most = load_of(web) - 1
    if not is_dict_over(web, thing) or not all([is_from(thing[pair], 0, most) for pair in thing]):
        return False
    return are_unlike_where_touching(web, thing)


def need_hues(web, hues):
    """Raise BadWeb for what is no web, and BadHues for what are no hues of it."""
    if not are_hues(web, hues):
        raise BadHues("hues are numbers below the load for all pairs, unlike where pairs touch")


def with_hue(found, place, number, hue):
    """Return the list of the pairs of this hue, one at most, that have the number at this place."""
    return [pair for pair in found if pair[place] == number and found[pair] == hue]


def free_hues(found, place, number, many):
    """Return the list of those of so many hues that no pair with the number at this place has."""
    return [hue for hue in range(many) if with_hue(found, place, number, hue) == []]


def hue_trail(found, desk, hue, other):
    """Return the list of the pairs that hang together from the desk on and have these two hues by turns."""
    trail = []
    place = 1
    onward = with_hue(found, place, desk, hue)
    while onward:
        trail.append(onward[0])
        place = 1 - place
        due = hue if place == 1 else other
        onward = with_hue(found, place, trail[-1][place], due)
    return trail


def hues(web):
    """Return hues of the web."""
    need_web(web)
    many = load_of(web)
    found = {}
    for person, desk in web:
        hue = free_hues(found, 0, person, many)[0]
        other = free_hues(found, 1, desk, many)[0]
        # Along the trail the two hues change places, so that the desk has this hue no more. The trail does not come
        # to the person: it would come there by a pair of this hue.
        trail = hue_trail(found, desk, hue, other)
        for pair in trail:
            found[pair] = hue + other - found[pair]
        found[(person, desk)] = hue
    return ascending(found)


def parted(web, hues):
    """Return the book of the plans that have the pairs of one hue each."""
    need_hues(web, hues)
    return tuple([tuple([pair for pair in web if hues[pair] == hue]) for hue in range(load_of(web))])


def need_lot(web, hues, lot):
    """Raise the errors of settled."""
    need_hues(web, hues)
    if not are_pairs(lot) or not all([pair in web for pair in lot]):
        raise BadLot("a lot is an ascending tuple of unlike pairs of the web")


def beats(hues, one, other):
    """Tell whether the pair one beats the pair other."""
    if one[0] == other[0]:
        return hues[one] > hues[other]
    return one[1] == other[1] and hues[one] < hues[other]


def holds(hues, lot, plan):
    """Tell whether each pair of the lot that is not in the plan is beaten by one that is."""
    left = [pair for pair in lot if pair not in plan]
    return all([any([beats(hues, one, other) for one in plan]) for other in left])


def is_settled(web, hues, lot, thing):
    """Tell whether any value is a settled plan of the lot."""
    need_lot(web, hues, lot)
    if not is_plan(thing) or not all([pair in lot for pair in thing]):
        return False
    return holds(hues, lot, thing)


def asking_rows(hues, lot):
    """Return the dict from the persons to the lists of their pairs in the lot, the greatest hue last."""
    rows = {}
    for _, person, desk in sorted([(hues[pair], pair[0], pair[1]) for pair in lot]):
        rows.setdefault(person, []).append((person, desk))
    return rows


def settled_in(hues, lot):
    """Return the settled plan that comes of asking."""
    rows = asking_rows(hues, lot)
    kept = {}
    asking = list(rows)
    while asking:
        row = rows[asking.pop()]
        if row == []:
            continue
        pair = row.pop()
        desk = pair[1]
        if desk not in kept:
            kept[desk] = pair
        elif hues[pair] < hues[kept[desk]]:
            asking.append(kept[desk][0])
            kept[desk] = pair
        else:
            asking.append(pair[0])
    return tuple(sorted(kept.values()))


def settled(web, hues, lot):
    """Return the settled plan that comes if persons ask for pairs, the greatest hue first."""
    need_lot(web, hues, lot)
    return settled_in(hues, lot)


def plans_in(lot):
    """Return the list of all plans of pairs of the lot."""
    plans = [()]
    for pair in lot:
        plans = plans + [plan + (pair,) for plan in plans if clashing(plan, pair) == []]
    return plans


def all_settled(web, hues, lot):
    """Return the ascending list of all settled plans of the lot."""
    need_lot(web, hues, lot)
    if len(lot) > MOST_SETTLED:
        raise TooMany(MOST_SETTLED)
    return sorted([plan for plan in plans_in(lot) if holds(hues, lot, plan)])
