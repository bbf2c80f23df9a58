"""Trees of cases, which show that a book has no pick of as many pairs as a goal.

A state is a triple: the plans that are left no more, the persons and the desks of the taken pairs. What is free in it
is what is left over of the book if these are barred; at first they are no members at all.
"""

from pairpicks.checks import is_from
from pairpicks.errors import BadGoal
from pairpicks.greatest import need_few
from pairpicks.guards import NO_MEMBERS, are_members, guarding, left_over, with_member
from pairpicks.picks import pick_of
from pairpicks.plans import is_pair, need_book

MOST_GOAL = 9


def need_goal(book, goal):
    """Raise BadBook for what is no book, and BadGoal for what is no goal."""
    need_book(book)
    if not is_from(goal, 1, MOST_GOAL):
        raise BadGoal("a goal is a number from 1 to 9")


def passed(state, number):
    """Return the state in which this plan is left no more."""
    return with_member(state, 0, number)


def taking(state, number, pair):
    """Return the state in which this pair of this plan is taken."""
    return with_member(with_member(passed(state, number), 1, pair[0]), 2, pair[1])


def spare_members(state, goal):
    """Return how many members a guard may have at most in this state."""
    return goal - len(state[1]) - 1


def narrowest(triples):
    """Return the number of the plan that has the fewest of these triples, but one at least."""
    numbers = [number for number, person, desk in triples]
    return min([(numbers.count(number), number) for number in numbers])[1]


def tree_from(book, goal, state):
    """Return a tree of cases for the state, in which there is no pick of as many pairs as the goal."""
    free = left_over(book, state)
    members = guarding(free, spare_members(state, goal))
    if members is not None:
        return ("guard",) + members
    number = narrowest(free)
    branches = {}
    for each, person, desk in free:
        if each == number:
            branches[(person, desk)] = tree_from(book, goal, taking(state, number, (person, desk)))
    branches[None] = tree_from(book, goal, passed(state, number))
    return "plan", number, branches


def tree(book, goal):
    """Return a tree of cases; None if there is a pick of as many pairs as the goal."""
    need_goal(book, goal)
    need_few(book)
    if pick_of(book, goal) is not None:
        return None
    return tree_from(book, goal, NO_MEMBERS)


def is_tree(book, goal, thing):
    """Tell whether any value is a tree of cases."""
    need_goal(book, goal)
    return is_tree_from(book, goal, NO_MEMBERS, thing)


def is_tree_from(book, goal, state, thing):
    """Tell whether any value is a tree of cases for the state."""
    if not isinstance(thing, tuple) or len(thing) == 0:
        return False
    if thing[0] == "guard":
        return is_guard_of(book, thing[1:], state, spare_members(state, goal))
    return thing[0] == "plan" and len(thing) == 3 and are_cases(book, goal, state, thing[1], thing[2])


def is_guard_of(book, thing, state, most):
    """Tell whether any value has at most so many members, and each free pair of the state one of them."""
    if not are_members(book, thing) or sum([len(part) for part in thing]) > most:
        return False
    numbers, persons, desks = thing
    free = left_over(book, state)
    return all([k in numbers or person in persons or desk in desks for k, person, desk in free])


def are_cases(book, goal, state, number, branches):
    """Tell whether any two values are the number of a plan that is left, and the branches for it."""
    if not is_from(number, 0, len(book) - 1) or number in state[0] or not isinstance(branches, dict):
        return False
    free = [(person, desk) for each, person, desk in left_over(book, state) if each == number]
    if len(branches) != len(free) + 1 or None not in branches:
        return False
    for pair in branches:
        if pair is None:
            after = passed(state, number)
        elif is_pair(pair) and pair in free:
            after = taking(state, number, pair)
        else:
            return False
        if not is_tree_from(book, goal, after, branches[pair]):
            return False
    return True
