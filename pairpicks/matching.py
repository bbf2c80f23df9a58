"""Rows that are to have one thing each, out of those that each row may have, and no two rows the same thing."""


def matched(wishes):
    """Return the dict from things to the rows that have them, as large as can be.

    wishes is a dict from the rows to the lists of the things that they may have.
    """
    owners = {}
    for row in wishes:
        give(wishes, row, owners, {})
    return owners


def give(wishes, row, owners, asked):
    """Tell whether the row can have a thing, if those who have one take others, and do so if it can."""
    for thing in wishes[row]:
        if thing in asked:
            continue
        asked[thing] = True
        if thing not in owners or give(wishes, owners[thing], owners, asked):
            owners[thing] = row
            return True
    return False


def in_want(wishes, owners):
    """Return the ascending list of the rows that have nothing, or a thing that could be passed on to such a row.

    owners is as large as can be: so each thing that one of these rows may have is had by another one of them.
    """
    having = list(owners.values())
    found = {row: True for row in wishes if row not in having}
    waiting = list(found)
    while waiting:
        row = waiting.pop()
        for thing in wishes[row]:
            owner = owners[thing]
            if owner not in found:
                found[owner] = True
                waiting.append(owner)
    return sorted(found)
