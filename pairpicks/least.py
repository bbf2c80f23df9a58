"""Books that fail: sizes that do not rise to a number have a book without a pick of so many pairs."""

from pairpicks.errors import BadNumber, Rises
from pairpicks.fewer import need_sizes
from pairpicks.rising import need_sizes_up_to, rises, short_size


def need_failing(sizes, number):
    """Raise the errors of failing_book."""
    need_sizes_up_to(sizes, number)
    if rises(sizes, number):
        raise Rises("the sizes rise to the number")


def two_plans(number):
    """Return the two plans of so many persons, of which all plans of a failing book are parts."""
    one = tuple([(k, k) for k in range(number)])
    return one, tuple([(k, (k + 1) % number) for k in range(number)])


def failing_book(sizes, number):
    """Return a book with just these sizes that has no pick of number pairs."""
    need_failing(sizes, number)
    one, other = two_plans(number)
    falling = sorted([(-size, at) for at, size in enumerate(sizes)])
    # The plans of one are too few for all its pairs, those of other are too small for all of its own.
    of_one = [at for _, at in falling[:number - 1]]
    return tuple([one[:size] if at in of_one else other[:size] for at, size in enumerate(sizes)])


def failing_bar(sizes, number):
    """Return a bar of the failing book."""
    need_sizes(sizes)
    if number == 1:
        raise BadNumber("one person makes no ring")
    need_failing(sizes, number)
    one, other = two_plans(number)
    return one, other, one, other[short_size(sizes, number) - 1:]
