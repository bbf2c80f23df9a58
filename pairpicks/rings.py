"""Two plans laid together: the pieces that hang together, and rings."""

from pairpicks.checks import are_unlike, is_number
from pairpicks.errors import BadPerson, BadRow, NoRing
from pairpicks.plans import LAST, need_plan, persons_of


def hanging(pairs, person):
    """Return the ascending tuples of the persons and of the desks that hang together with this person."""
    persons = {person: True}
    desks = {}
    # Each round but the last takes in one pair more, at least.
    for _ in range(len(pairs)):
        for p, d in pairs:
            if p in persons or d in desks:
                persons[p] = True
                desks[d] = True
    return tuple(sorted(persons)), tuple(sorted(desks))


def within(plan, persons):
    """Return the pairs of the plan that have one of these persons."""
    return [pair for pair in plan if pair[0] in persons]


def kind_of(one, other):
    """Return the kind of the piece that these pairs of one plan and those of another one make."""
    if one == other:
        return "same"
    full = [pair[0] for pair in one] == [pair[0] for pair in other]
    if full and sorted([pair[1] for pair in one]) == sorted([pair[1] for pair in other]):
        return "ring"
    return "trail"


def pieces(one, other):
    """Return the ascending list of the triples (persons, desks, kind) of the pieces."""
    need_plan(one)
    need_plan(other)
    found = []
    placed = []
    pairs = one + other
    for person, _ in sorted(pairs):
        if person not in placed:
            persons, desks = hanging(pairs, person)
            found.append((persons, desks, kind_of(within(one, persons), within(other, persons))))
            placed.extend(persons)
    return found


def swapped(one, other, person):
    """Return the plan with the pairs of other in the piece of this person, those of one elsewhere."""
    need_plan(one)
    need_plan(other)
    if not is_number(person) or person not in persons_of(one) + persons_of(other):
        raise BadPerson("the person stands in neither plan")
    persons, _ = hanging(one + other, person)
    stay = [pair for pair in one if pair[0] not in persons]
    return tuple(sorted(stay + within(other, persons)))


def are_ring(one, other):
    """Tell whether the two plans have just one piece, and it is a ring."""
    return [kind for persons, desks, kind in pieces(one, other)] == ["ring"]


def ring_of(persons, desks):
    """Return the pair of plans that make one ring along these persons and desks."""
    if not are_unlike(persons, LAST) or len(persons) < 2:
        raise BadRow("persons are a tuple of two to eight unlike persons")
    if not are_unlike(desks, LAST) or len(desks) != len(persons):
        raise BadRow("desks are a tuple of as many unlike desks")
    one = tuple(sorted(zip(persons, desks)))
    return one, tuple(sorted(zip(persons, desks[1:] + desks[:1])))


def row_of(one, other):
    """Return the persons and desks along which ring_of tells the two plans."""
    if not are_ring(one, other):
        raise NoRing("the two plans do not make one ring")
    desk_in_other = dict(other)
    person_in_one = {desk: person for person, desk in one}
    person, desk = one[0]
    persons = []
    desks = []
    for _ in one:
        persons.append(person)
        desks.append(desk)
        desk = desk_in_other[person]
        person = person_in_one[desk]
    return tuple(persons), tuple(desks)
