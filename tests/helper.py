"""What the tests share: odd values, ways to check a function's calls, and picks counted one by one."""

import copy
import itertools
import random

from pairpicks.errors import BadBook, Clash, PickError
from pairpicks.office import Office
from pairpicks.picks import is_pick


def nested(kind):
    """A value of this kind, 80 levels deep."""
    value = 1
    for _ in range(80):
        if kind == "list":
            value = [value]
        elif kind == "tuple":
            value = (value,)
        else:
            value = {0: value}
    return value


# Values of other kinds: none of them is a number, a plan that is not empty, a book or a pick that is not empty.
ODD = [
    None, True, False, "", "0", "plan", [], [0], [[]], [(0, 0)], {"a": 1}, {None: None}, (None,), ("0",), ((0,),),
    ((True,),), {0: 0}, {True: (0, 0)}, BadBook("text"), Clash(3), (BadBook("text"),), (1, (2, [3])),
    Office(), (Office(), 0), [Office()], {0: Office()},
    nested("list"), nested("tuple"), nested("dict"),
]
NOT_NUMBERS = ODD + [(), {}, (0,), (1, 2), [1, 2]]
NOT_PERSONS = NOT_NUMBERS + [-1, 8, 999999999, -999999999]
NOT_DESKS = NOT_PERSONS

NOT_PAIRS = ODD + [
    (), {}, 0, 1, 8, (0,), (0, 1, 2), [0, 1], (0, 8), (8, 0), (-1, 0), (0, -1), (True, 0), (0, False), (0, None),
    ("0", "1"), ((0, 1),), (0, (1,)), (0, [1]), {0: 1}, "01", (999999999, 0),
]
NOT_PLANS = ODD + [
    {}, 0, 1, -1, (0, 1), [(0, 1), (1, 2)], ([0, 1],), ((0, 1), [1, 2]), ((0, 1, 2),), ((0,), (1, 2)),
    ((1, 0), (0, 2)), ((0, 2), (1, 2)), ((0, 1), (0, 1)), ((0, 1), (0, 2)), ((2, 1), (2, 2)), ((7, 0), (1, 1)),
    ((0, 8),), ((8, 0),), ((-1, 0),), ((0, -1),), ((0, 0), (1, 8)), ((True, 0),), ((0, False),), ((0, 0), (True, 1)),
    ((0, 0), (1, True)), (("0", "1"),), ((0, "1"),), ((0, None),), {(0, 1): 1}, ((),), (((0, 1),),), ((0, 1), None),
    ((0, (1,)),), ((0, 999999999),),
]
NOT_BOOKS = ODD + [
    (), {}, 0, 1, 16, (0, 1), ((0, 1),), [()], [((0, 1),)], ((),) * 17, (((0, 1),),) * 17, (((0, 1),), [(0, 1)]),
    ((), None), {0: ()}, "book", (((0, 1),), ((1, 0), (0, 2))),
] + [(plan,) for plan in NOT_PLANS] + [((), plan) for plan in NOT_PLANS]

NOT_SIZES = ODD + [
    (), {}, 0, 3, 16, [1, 2], [3], (9,), (-1,), (1, 9), (-1, 8), (0,) * 17, (3,) * 17, (1, 2, True), (False,),
    (0, False), (True,), (1, None), ("1",), (1, (2,)), ([1],), (999999999,), (-999999999,), {0: 1}, "12",
    (1, BadBook("text")),
]
# A goal or a number that is at least 1, but no more than 9 or 8.
NOT_GOALS = NOT_NUMBERS + [0, 10, -1, 999999999, -999999999]
NOT_RISE_NUMBERS = NOT_NUMBERS + [0, 9, 10, -1, 999999999, -999999999]

# All dials that there are, and values that are none.
ALL_DIALS = [(size,) for size in range(2, 9)] + [(2, 2), (2, 3), (3, 2), (2, 4), (4, 2), (2, 2, 2)]
NOT_DIALS = ODD + [
    (), {}, 0, 2, [2], [2, 2], (1,), (0,), (-2,), (9,), (1, 2), (2, 1), (1, 1, 2), (2, True), (True,), (False, 2),
    (3, 3), (2, 5), (5, 2), (2, 2, 3), (8, 8), (4, 4), (2, 2, 2, 2), (2, 2, 2, 1), (-2, -2), (2, None), ("2",), ((2,),),
    (2, (2,)), "2", {2: 2}, (999999999,), (2, 999999999),
]

# Values that are no tables; among the odd ones is the table of one sign.
NOT_TABLES = [thing for thing in ODD if thing.__class__ is not tuple or thing != ((0,),)] + [
    (), {}, 0, 1, (0, 1), [(0, 1)], [[0, 1]], ([0, 1],), ((0, 1), [1, 0]), ((),), ((), ()), ((0, 1), (1,)),
    ((0,), (1, 0)), ((0, 0),), ((0, 1), (1, 1)), ((0, 8),), ((-1, 0),), ((0, 1), (2, 8)), ((0, True),), ((False, 1),),
    ((0, 1), (True, 0)), ((0, None),), (("0", "1"),), ("01",), ((0, (1,)),), {0: (0, 1)}, ((0, 1), None), (((0, 1),),),
    ((0,),) * 17, (tuple(range(9)),), ((0, 1, 2, 3, 4, 5, 6, 7, 0),), ((999999999,),), ((0, 1), {0: 0, 1: 1}),
    ((0, BadBook("text")),),
]

# Values that are no ascending tuples of unlike pairs, and no webs.
NOT_LOTS = ODD + [
    {}, 0, 1, (0, 1), [(0, 1)], [], ([0, 1],), ((0, 1), [1, 2]), ((0, 1, 2),), ((0,),), ((1, 0), (0, 1)),
    ((0, 1), (0, 1)), ((0, 1), (0, 0)), ((0, 8),), ((8, 0),), ((-1, 0),), ((True, 0),), ((0, False),),
    ((0, 0), (0, True)), ((0, 0), (True, 0)), (("0", "1"),), ((0, None),), {(0, 1): 1}, ((),), (((0, 1),),),
    ((0, 1), None), ((0, (1,)),), ((0, 999999999),), ((0, BadBook("text")),), "01", ((0, 0), nested("tuple")),
]
NOT_WEBS = NOT_LOTS + [()]


def not_dicts_over(good):
    """Values like this dict over the pairs of a web, but with a pair too many, too few, or another one."""
    first, *others = good
    rest = {pair: good[pair] for pair in others}
    away = next((7, desk) for desk in range(8) if (7, desk) not in good)
    found = ODD + [
        [], (), 0, rest, {**good, away: good[first]}, {**rest, away: good[first]}, list(good.items()),
        tuple(good.items()), {**good, None: good[first]}, {**rest, "0-0": good[first]}, {**rest, first[0]: good[first]},
        {**rest, first + (0,): good[first]}, {**rest, nested("tuple"): good[first]}, {**good, first: None},
        {**good, first: True}, {**good, first: False}, {**good, first: "0"}, {**good, first: [0]}, {**good, first: {}},
        {**good, first: nested("list")}, {**good, first: BadBook("text")}, {**good, first: ((0,),)},
        {**good, first: (None,)},
    ]
    # A key with a bool in the place of 0 or 1.
    for pair in good:
        for at in (0, 1):
            if pair[at] in (0, 1):
                odd = pair[:at] + (bool(pair[at]),) + pair[at + 1:]
                found.append({(odd if each == pair else each): good[each] for each in good})
    return found + ([{}] if good else [])


def not_places(dials):
    """Values that are no places of these dials."""
    zero = (0,) * len(dials)
    found = ODD + [
        (), {}, 0, list(zero), [list(zero)], zero + (0,), zero[1:], (None,) + zero[1:], ("0",) + zero[1:],
        "0" * len(dials), (False,) + zero[1:], zero[:-1] + (False,), zero[:-1] + (True,), {0: 0}, (zero,),
        (-1,) + zero[1:], (999999999,) + zero[1:], zero[:-1] + (BadBook("text"),), zero[:-1] + (nested("tuple"),),
    ]
    for at, size in enumerate(dials):
        found += [zero[:at] + (part,) + zero[at + 1:] for part in (size, size + 1, -1, (0,), [0])]
    return found


def not_moves(dials):
    """Values that are no tuples of one to sixteen moves of these dials."""
    zero = (0,) * len(dials)
    # The tuple of the place of one dial is among the odd values.
    found = [thing for thing in ODD if thing.__class__ is not tuple or thing != (zero,)]
    found += [(), {}, 0, zero, [zero], [list(zero)], (zero,) * 17, {0: zero}, {zero: 0}, (zero, None), (zero, [zero])]
    return found + [(thing,) for thing in not_places(dials)] + [(zero, thing, zero) for thing in not_places(dials)]


def not_ascending(many):
    """Values that are no ascending tuples of unlike numbers from 0 to many - 1."""
    return ODD + [
        {}, 0, 1, [0, 1], [1], (many,), (-1,), (0, many), (1, 0), (0, 0), (0, 0, 1), (True,), (False,), (False, 1),
        (0, True), (0, None), (0, "1"), {0: 1}, {0: True}, "01", (0, (1,)), ([0],), (999999999,),
    ]


def not_orders(numbers):
    """Values that are no tuples with each of these numbers once."""
    right = tuple(numbers)
    bad = ODD + [
        {}, 0, 1, list(right), right + (16,), right + (-1,), right + right[:1] if right else (0,), (None,) + right[1:],
        ("0",) + right[1:], {number: number for number in right}, (right,), "".join(str(number) for number in right),
    ]
    if right:
        bad += [right[1:], (right[-1] + 1,) + right[1:], (right[0],) * (len(right) + 1), (), ([right[0]],) + right[1:]]
    if len(right) > 1:
        bad.append(right[:1] * len(right))
    for number, same in ((0, False), (1, True)):
        if number in right:
            bad.append(tuple([same if item == number else item for item in right]))
    return bad


def not_picks_of(book):
    """Values that are no picks of this book, whose first plan has the pair (0, 0), its last one no pair (5, 5)."""
    many = len(book)
    assert (0, 0) in book[0] and (5, 5) not in book[-1]
    return ODD + [
        (), 0, 1, ((0, (0, 0)),), [(0, (0, 0))], {False: (0, 0)}, {0: [0, 0]}, {0: (False, 0)}, {0: (0, False)},
        {0: (0, 0, 0)}, {0: (0,)}, {0: None}, {0: "00"}, {many: (0, 0)}, {-many: (0, 0)}, {-1: (0, 0)}, {"0": (0, 0)},
        {None: (0, 0)}, {(0,): (0, 0)}, {many - 1: (5, 5)}, {0: ((0, 0),)}, {0: {0: 0}}, {0: (0, 8)}, {0: (-1, 0)},
        {0: (0, 0), many: (1, 1)}, {0: (0, 0), "1": (1, 1)}, {0: nested("tuple")}, {0: nested("dict")},
        {0: (0, nested("list"))}, {0: BadBook("text")},
    ]


def variants(value):
    """Values like this one, but for one part of it, at any depth, that is of another kind or no number in question."""
    found = [thing for thing in ODD if thing.__class__ is not value.__class__ or thing != value]
    if isinstance(value, bool) or value is None:
        return found
    if isinstance(value, int):
        return found + [-1, 99, str(value), (value,), [value]] + ([bool(value)] if value in (0, 1) else [])
    if isinstance(value, str):
        return found + [value + " ", value.upper(), value[1:]]
    if isinstance(value, tuple):
        found.append(list(value))
        for at, item in enumerate(value):
            found += [value[:at] + (other,) + value[at + 1:] for other in variants(item)]
    if isinstance(value, dict):
        found += [list(value.items()), tuple(value.items())]
        for key in value:
            found += [{**value, key: other} for other in variants(value[key])]
            found += [{(other if one == key else one): value[one] for one in value} for other in variants(key)
                      if is_key(other)]
    return found


def is_key(value):
    """Whether a dict can have this key."""
    try:
        hash(value)
    except TypeError:
        return False
    return True


def check_calls(test, function, names, good, bad):
    """Check that the function takes what is good by position and by name, and refuses what is bad, the first one first.

    bad has for each parameter a list of pairs (value, error); what is passed stays as it is.
    """
    before = copy.deepcopy(good)
    result = function(*good)
    test.assertEqual(result, function(**dict(zip(names, good))))
    spoiled = function(*good)
    spoil(spoiled)
    test.assertEqual(function(*good), result)
    test.assertEqual(good, before)
    for at, rows in enumerate(bad):
        for value, error in rows:
            check_refused(test, function, names, good[:at] + (value,) + good[at + 1:], error)
            for later in range(at + 1, len(bad)):
                for other, _ in bad[later][:3] + bad[later][-3:]:
                    wrong = good[:at] + (value,) + good[at + 1:later] + (other,) + good[later + 1:]
                    check_refused(test, function, names, wrong, error)
    return result


def check_refused(test, function, names, values, error):
    """Check that the function raises just this error by position and by name."""
    for way in ("position", "name"):
        with test.subTest(function=function.__name__, values=values, way=way):
            with test.assertRaises(PickError) as caught:
                function(*values) if way == "position" else function(**dict(zip(names, values)))
            test.assertIs(caught.exception.__class__, error)


def spoil(value):
    """Change all lists and dicts within a value."""
    if isinstance(value, (list, tuple)):
        for item in value:
            spoil(item)
    if isinstance(value, dict):
        for key in value:
            spoil(value[key])
        value["spoiled"] = True
    if isinstance(value, list):
        value.append("spoiled")


def check_grown(test, book, pick, triples, way, more):
    """Check the way that leads to the end of a chain of these triples, and the pick that grows by it."""
    test.assertEqual(way[-1], triples[-1])
    test.assertEqual([triple for triple in triples if triple in way], way)
    desk_of = dict(pick.values())
    test.assertNotIn(way[0][1], desk_of)
    for ahead, behind in zip(way, way[1:]):
        test.assertEqual(ahead[2], desk_of[behind[1]])
    test.assertIs(is_pick(book, more), True)
    test.assertEqual((list(more), len(more)), (sorted(more), len(pick) + 1))
    for at in (0, 1):
        test.assertLessEqual({pair[at] for pair in pick.values()}, {pair[at] for pair in more.values()})
    moving = [triple[1] for triple in way]
    due = {number: pair for number, pair in pick.items() if pair[0] not in moving}
    test.assertEqual(more, {**due, **{number: (person, desk) for number, person, desk in way}})


def both(values, error):
    """The pairs of each value and this error."""
    return [(value, error) for value in values]


def all_picks(book):
    """All picks of the book, counted one by one."""
    picks = [{}]
    for number, plan in enumerate(book):
        more = []
        for pick in picks:
            persons = [person for person, desk in pick.values()]
            desks = [desk for person, desk in pick.values()]
            for person, desk in plan:
                if person not in persons and desk not in desks:
                    more.append({**pick, number: (person, desk)})
        picks = picks + more
    return picks


def most_pairs(book):
    """How many pairs the greatest picks of the book have."""
    return max(len(pick) for pick in all_picks(book))


def is_lone_by_hand(book):
    """Whether a book is lone, as the words of the document tell it."""
    one = book[0]
    k = len(one)
    others = [plan for plan in book if plan != one]
    if k < 2 or len(book) != 2 * k - 2 or len(others) != k - 1 or len(set(others)) != 1 or len(others[0]) != k:
        return False
    to_desk = dict(one)
    to_person = {desk: person for person, desk in others[0]}
    person = one[0][0]
    round_trip = []
    while person is not None and person not in round_trip:
        round_trip.append(person)
        person = to_person.get(to_desk.get(person))
    return len(round_trip) == k and person == round_trip[0]


def all_plans(among, least=0):
    """All plans of least pairs or more with persons and desks below among."""
    pairs = list(itertools.product(range(among), repeat=2))
    rows = [row for size in range(least, among + 1) for row in itertools.combinations(pairs, size)]
    return [row for row in rows if len({p for p, d in row}) == len({d for p, d in row}) == len(row)]


class Dice:
    """Plans, books and orders of all kinds, the same ones in each run."""

    def __init__(self, seed):
        self.random = random.Random(seed)

    def plan(self, size, among=8):
        """A plan of so many pairs of persons and desks below among."""
        persons = self.random.sample(range(among), size)
        return tuple(sorted(zip(persons, self.random.sample(range(among), size))))

    def book(self, many, least=0, most=8, among=8):
        """A book of so many plans of least to most pairs, some of them several times."""
        plans = []
        for _ in range(many):
            if plans and self.random.random() < 0.3:
                plans.append(self.random.choice(plans))
            else:
                plans.append(self.plan(self.random.randint(least, most), among))
        return tuple(plans)

    def book_of(self, sizes, among=8):
        """A book of plans with these sizes."""
        return tuple([self.plan(size, max(among, size)) for size in sizes])

    def small_book(self, most_plans=8, most_pairs=28):
        """A book of at most so many plans with at most so many pairs in all."""
        while True:
            among = self.number(1, 8)
            book = self.book(self.number(1, most_plans), most=min(among, 6), among=among)
            if sum(len(plan) for plan in book) <= most_pairs:
                return book

    def members(self, book):
        """A triple (numbers, persons, desks) as barred takes them."""
        rows = [self.part(range(many), self.number(0, min(many, 3))) for many in (len(book), 8, 8)]
        return tuple([tuple(sorted(row)) for row in rows])

    def pick(self, book, most=8):
        """A pick of the book with at most so many pairs, its keys in any sequence."""
        pick = {}
        for number in self.order(range(len(book))):
            free = [pair for pair in book[number] if not any(
                pair[0] == other[0] or pair[1] == other[1] for other in pick.values())]
            if free and len(pick) < most and self.random.random() < 0.7:
                pick[number] = self.random.choice(free)
        return pick

    def order(self, numbers):
        """These numbers in any sequence."""
        numbers = list(numbers)
        self.random.shuffle(numbers)
        return tuple(numbers)

    def part(self, numbers, size):
        """So many of these numbers, in any sequence."""
        return tuple(self.random.sample(list(numbers), size))

    def moves(self, dials, many):
        """So many moves of the dials, some of them several times, perhaps of a few ones only."""
        some = [tuple([self.number(0, size - 1) for size in dials]) for _ in range(self.number(1, 6))]
        return tuple([self.random.choice(some) for _ in range(many)])

    def table(self, many, size, signs=8):
        """A table of so many rows of so many signs below signs, some of them several times."""
        rows = [self.part(range(signs), size) for _ in range(self.number(1, max(many, 1)))]
        return tuple([self.random.choice(rows) for _ in range(many)])

    def web(self, many, among=8):
        """A web of so many pairs of persons and desks below among."""
        return tuple(sorted(self.part([(p, d) for p in range(among) for d in range(among)], many)))

    def web_up_to(self, most):
        """A web of at most so many pairs, dense or thin."""
        among = self.number(1, 8)
        return self.web(self.number(1, min(most, among * among)), among)

    def number(self, least, most):
        """A number from least to most."""
        return self.random.randint(least, most)
