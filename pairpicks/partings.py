"""Partings, which have each cell of a table in one of their cross-cuts."""

from itertools import permutations

from pairpicks.errors import BadCut, BadParting, BadTable, TooMany
from pairpicks.moves import less, place_number, places, plus
from pairpicks.tables import is_cut, is_table, moves_table

MOST_PARTED = 5


def need_square(table):
    """Raise BadTable for what is no table with as many rows as columns."""
    if not is_table(table) or len(table) != len(table[0]):
        raise BadTable("a table with as many rows as columns is due")


def are_apart_from(rows, row):
    """Tell whether no column of the row stands at the same place in one of these rows."""
    return all([one != other for each in rows for one, other in zip(each, row)])


def is_parting(table, thing):
    """Tell whether any value is a parting of the table."""
    need_square(table)
    if not isinstance(thing, (list, tuple)) or len(thing) != len(table):
        return False
    rows = []
    for number, each in enumerate(thing):
        if not is_cut(table, each) or each[0] != number:
            return False
        # A cut has a column for each row here; n cuts have all cells, if they have none in common.
        row = [each[at] for at in range(len(table))]
        if not are_apart_from(rows, row):
            return False
        rows.append(row)
    return True


def cuts_from(table, column):
    """Return the list of the rows of columns that are cross-cuts of the table with this column in the row 0."""
    many = len(table)
    found = []
    for row in permutations(range(many)):
        if row[0] == column and len({table[at][row[at]] for at in range(many)}) == many:
            found.append(row)
    return found


def parted_by(choices, rows):
    """Return a parting by rows of columns, the first of them these, the others out of the choices; None for none."""
    if len(rows) == len(choices):
        return rows
    for row in choices[len(rows)]:
        if are_apart_from(rows, row):
            found = parted_by(choices, rows + [row])
            if found is not None:
                return found
    return None


def parting(table):
    """Return a parting of the table; None if there is none."""
    need_square(table)
    if len(table) > MOST_PARTED:
        raise TooMany(MOST_PARTED)
    rows = parted_by([cuts_from(table, column) for column in range(len(table))], [])
    return None if rows is None else [dict(enumerate(row)) for row in rows]


def mate(table, parting):
    """Return the table that has the number k in each cell of the cross-cut k."""
    if not is_parting(table, parting):
        raise BadParting("a parting of the table is due")
    found = []
    for number in range(len(table)):
        columns = [each[number] for each in parting]
        found.append(tuple([columns.index(column) for column in range(len(table))]))
    return tuple(found)


def parting_by(dials, cut):
    """Return the parting of the table of all moves that has the cross-cut moved on by each place."""
    points = tuple(places(dials))
    if not is_cut(moves_table(dials, points), cut):
        raise BadCut("a cross-cut of the table of all moves is due")
    found = []
    for start in points:
        step = less(dials, start, points[cut[0]])
        found.append({row: place_number(dials, plus(dials, points[cut[row]], step)) for row in sorted(cut)})
    return found
