"""What the tests share: odd values, ways to check a function's calls, and picks counted one by one."""

import copy
import random

from pairpicks.errors import BadBook, Clash, PickError


def nested(kind):
    """A value of this kind, 80 levels deep."""
    value = 1
    for _ in range(80):
        if kind == "list":
            value = [value]
        elif kind == "tuple":
            value = (value,)
        else:
            value = {0: value}
    return value


# Values of other kinds: none of them is a number, a plan that is not empty, a book or a pick that is not empty.
ODD = [
    None, True, False, "", "0", "plan", [], [0], [[]], [(0, 0)], {"a": 1}, {None: None}, (None,), ("0",), ((0,),),
    ((True,),), {0: 0}, {True: (0, 0)}, BadBook("text"), Clash(3), (BadBook("text"),), (1, (2, [3])),
    nested("list"), nested("tuple"), nested("dict"),
]
NOT_NUMBERS = ODD + [(), {}, (0,), (1, 2), [1, 2]]
NOT_PERSONS = NOT_NUMBERS + [-1, 8, 999999999, -999999999]
NOT_DESKS = NOT_PERSONS

NOT_PAIRS = ODD + [
    (), {}, 0, 1, 8, (0,), (0, 1, 2), [0, 1], (0, 8), (8, 0), (-1, 0), (0, -1), (True, 0), (0, False), (0, None),
    ("0", "1"), ((0, 1),), (0, (1,)), (0, [1]), {0: 1}, "01", (999999999, 0),
]
NOT_PLANS = ODD + [
    {}, 0, 1, -1, (0, 1), [(0, 1), (1, 2)], ([0, 1],), ((0, 1), [1, 2]), ((0, 1, 2),), ((0,), (1, 2)),
    ((1, 0), (0, 2)), ((0, 2), (1, 2)), ((0, 1), (0, 1)), ((0, 1), (0, 2)), ((2, 1), (2, 2)), ((7, 0), (1, 1)),
    ((0, 8),), ((8, 0),), ((-1, 0),), ((0, -1),), ((0, 0), (1, 8)), ((True, 0),), ((0, False),), ((0, 0), (True, 1)),
    ((0, 0), (1, True)), (("0", "1"),), ((0, "1"),), ((0, None),), {(0, 1): 1}, ((),), (((0, 1),),), ((0, 1), None),
    ((0, (1,)),), ((0, 999999999),),
]
NOT_BOOKS = ODD + [
    (), {}, 0, 1, 16, (0, 1), ((0, 1),), [()], [((0, 1),)], ((),) * 17, (((0, 1),),) * 17, (((0, 1),), [(0, 1)]),
    ((), None), {0: ()}, "book", (((0, 1),), ((1, 0), (0, 2))),
] + [(plan,) for plan in NOT_PLANS] + [((), plan) for plan in NOT_PLANS]


def not_ascending(many):
    """Values that are no ascending tuples of unlike numbers from 0 to many - 1."""
    return ODD + [
        {}, 0, 1, [0, 1], [1], (many,), (-1,), (0, many), (1, 0), (0, 0), (0, 0, 1), (True,), (False,), (False, 1),
        (0, True), (0, None), (0, "1"), {0: 1}, {0: True}, "01", (0, (1,)), ([0],), (999999999,),
    ]


def not_orders(numbers):
    """Values that are no tuples with each of these numbers once."""
    right = tuple(numbers)
    bad = ODD + [
        {}, 0, 1, list(right), right + (16,), right + (-1,), right + right[:1] if right else (0,), (None,) + right[1:],
        ("0",) + right[1:], {number: number for number in right}, (right,), "".join(str(number) for number in right),
    ]
    if right:
        bad += [right[1:], (right[-1] + 1,) + right[1:], (right[0],) * (len(right) + 1), (), ([right[0]],) + right[1:]]
    if len(right) > 1:
        bad.append(right[:1] * len(right))
    for number, same in ((0, False), (1, True)):
        if number in right:
            bad.append(tuple([same if item == number else item for item in right]))
    return bad


def not_picks_of(book):
    """Values that are no picks of this book, whose first plan has the pair (0, 0), its last one no pair (5, 5)."""
    many = len(book)
    assert (0, 0) in book[0] and (5, 5) not in book[-1]
    return ODD + [
        (), 0, 1, ((0, (0, 0)),), [(0, (0, 0))], {False: (0, 0)}, {0: [0, 0]}, {0: (False, 0)}, {0: (0, False)},
        {0: (0, 0, 0)}, {0: (0,)}, {0: None}, {0: "00"}, {many: (0, 0)}, {-many: (0, 0)}, {-1: (0, 0)}, {"0": (0, 0)},
        {None: (0, 0)}, {(0,): (0, 0)}, {many - 1: (5, 5)}, {0: ((0, 0),)}, {0: {0: 0}}, {0: (0, 8)}, {0: (-1, 0)},
        {0: (0, 0), many: (1, 1)}, {0: (0, 0), "1": (1, 1)}, {0: nested("tuple")}, {0: nested("dict")},
        {0: (0, nested("list"))}, {0: BadBook("text")},
    ]


def check_calls(test, function, names, good, bad):
    """Check that the function takes what is good by position and by name, and refuses what is bad, the first one first.

    bad has for each parameter a list of pairs (value, error); what is passed stays as it is.
    """
    before = copy.deepcopy(good)
    result = function(*good)
    test.assertEqual(result, function(**dict(zip(names, good))))
    spoiled = function(*good)
    spoil(spoiled)
    test.assertEqual(function(*good), result)
    test.assertEqual(good, before)
    for at, rows in enumerate(bad):
        for value, error in rows:
            check_refused(test, function, names, good[:at] + (value,) + good[at + 1:], error)
            for later in range(at + 1, len(bad)):
                for other, _ in bad[later][:3] + bad[later][-3:]:
                    wrong = good[:at] + (value,) + good[at + 1:later] + (other,) + good[later + 1:]
                    check_refused(test, function, names, wrong, error)
    return result


def check_refused(test, function, names, values, error):
    """Check that the function raises just this error by position and by name."""
    for way in ("position", "name"):
        with test.subTest(function=function.__name__, values=values, way=way):
            with test.assertRaises(PickError) as caught:
                function(*values) if way == "position" else function(**dict(zip(names, values)))
            test.assertIs(caught.exception.__class__, error)


def spoil(value):
    """Change all lists and dicts within a value."""
    if isinstance(value, (list, tuple)):
        for item in value:
            spoil(item)
    if isinstance(value, dict):
        for key in value:
            spoil(value[key])
        value["spoiled"] = True
    if isinstance(value, list):
        value.append("spoiled")


def both(values, error):
    """The pairs of each value and this error."""
    return [(value, error) for value in values]


def all_picks(book):
    """All picks of the book, counted one by one."""
    picks = [{}]
    for number, plan in enumerate(book):
        more = []
        for pick in picks:
            persons = [person for person, desk in pick.values()]
            desks = [desk for person, desk in pick.values()]
            for person, desk in plan:
                if person not in persons and desk not in desks:
                    more.append({**pick, number: (person, desk)})
        picks = picks + more
    return picks


def most_pairs(book):
    """How many pairs the greatest picks of the book have."""
    return max(len(pick) for pick in all_picks(book))


def is_lone_by_hand(book):
    """Whether a book is lone, as the words of the document tell it."""
    one = book[0]
    k = len(one)
    others = [plan for plan in book if plan != one]
    if k < 2 or len(book) != 2 * k - 2 or len(others) != k - 1 or len(set(others)) != 1 or len(others[0]) != k:
        return False
    to_desk = dict(one)
    to_person = {desk: person for person, desk in others[0]}
    person = one[0][0]
    round_trip = []
    while person is not None and person not in round_trip:
        round_trip.append(person)
        person = to_person.get(to_desk.get(person))
    return len(round_trip) == k and person == round_trip[0]


class Dice:
    """Plans, books and orders of all kinds, the same ones in each run."""

    def __init__(self, seed):
        self.random = random.Random(seed)

    def plan(self, size, among=8):
        """A plan of so many pairs of persons and desks below among."""
        persons = self.random.sample(range(among), size)
        return tuple(sorted(zip(persons, self.random.sample(range(among), size))))

    def book(self, many, least=0, most=8, among=8):
        """A book of so many plans of least to most pairs, some of them several times."""
        plans = []
        for _ in range(many):
            if plans and self.random.random() < 0.3:
                plans.append(self.random.choice(plans))
            else:
                plans.append(self.plan(self.random.randint(least, most), among))
        return tuple(plans)

    def pick(self, book, most=8):
        """A pick of the book with at most so many pairs, its keys in any sequence."""
        pick = {}
        for number in self.order(range(len(book))):
            free = [pair for pair in book[number] if not any(
                pair[0] == other[0] or pair[1] == other[1] for other in pick.values())]
            if free and len(pick) < most and self.random.random() < 0.7:
                pick[number] = self.random.choice(free)
        return pick

    def order(self, numbers):
        """These numbers in any sequence."""
        numbers = list(numbers)
        self.random.shuffle(numbers)
        return tuple(numbers)

    def part(self, numbers, size):
        """So many of these numbers, in any sequence."""
        return tuple(self.random.sample(list(numbers), size))

    def number(self, least, most):
        """A number from least to most."""
        return self.random.randint(least, most)
