"""What is a number, and which tuples of numbers the package asks for."""


def is_number(thing):
    """Tell whether any value is an int that is not a bool."""
    return isinstance(thing, int) and not isinstance(thing, bool)


def is_from(thing, least, most):
    """Tell whether any value is a number from least to most."""
    return is_number(thing) and least <= thing <= most


def are_numbers(thing):
    """Tell whether any value is a tuple of numbers."""
    if not isinstance(thing, tuple):
        return False
    for item in thing:
        if not is_number(item):
            return False
    return True


def are_unlike(thing, most):
    """Tell whether any value is a tuple of unlike numbers from 0 to most."""
    if not are_numbers(thing) or len(set(thing)) < len(thing):
        return False
    return all([0 <= item <= most for item in thing])


def are_ascending(thing, most):
    """Tell whether any value is an ascending tuple of unlike numbers from 0 to most."""
    return are_unlike(thing, most) and list(thing) == sorted(thing)


def is_order(thing, numbers):
    """Tell whether any value is a tuple with each of these ascending numbers once."""
    return are_numbers(thing) and sorted(thing) == list(numbers)


def is_order_below(thing, many):
    """Tell whether any value is a tuple with each number from 0 to many - 1 once."""
    return is_order(thing, list(range(many)))


def ascending(table):
    """Return a new dict that is like the table, but has ascending keys."""
    return {key: table[key] for key in sorted(table)}
