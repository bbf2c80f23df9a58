"""Tables, which have unlike signs in each row, and cross-cuts, which have unlike signs in unlike rows and columns."""

from pairpicks.checks import are_unlike, ascending, is_from
from pairpicks.errors import BadPick, BadTable, NoTable, TooMany
from pairpicks.growing import grow
from pairpicks.moves import move_book
from pairpicks.picks import is_pick, pick_of
from pairpicks.plans import LAST, MOST_PLANS, need_book

MOST_SEARCHED = 6


def is_table(thing):
    """Tell whether any value is a table."""
    if not isinstance(thing, tuple) or not 1 <= len(thing) <= MOST_PLANS:
        return False
    for row in thing:
        if not are_unlike(row, LAST) or len(row) == 0 or len(row) != len(thing[0]):
            return False
    return True


def need_table(table):
    """Raise BadTable for what is no table."""
    if not is_table(table):
        raise BadTable("a table is one to sixteen rows of as many unlike signs each")


def table_book(table):
    """Return the book with the pairs (column, sign) of each row."""
    need_table(table)
    return tuple([tuple(enumerate(row)) for row in table])


def rows_of(book):
    """Return the tuple of the rows that have the desks of the plans for signs."""
    return tuple([tuple([desk for person, desk in plan]) for plan in book])


def book_table(book):
    """Return the table whose table_book the book is."""
    need_book(book)
    table = rows_of(book)
    if not is_table(table) or table_book(table) != book:
        raise NoTable("the book is that of no table")
    return table


def moves_table(dials, moves):
    """Return the table whose table_book is the book of the moves."""
    return rows_of(move_book(dials, moves))


def is_cut(table, thing):
    """Tell whether any value is a cross-cut of the table."""
    need_table(table)
    many = len(table[0])
    if not isinstance(thing, dict) or len(thing) != many:
        return False
    for number in thing:
        if not is_from(number, 0, len(table) - 1) or not is_from(thing[number], 0, many - 1):
            return False
    columns = len({thing[number] for number in thing})
    signs = len({table[number][thing[number]] for number in thing})
    return columns == many and signs == many


def columns_of(pick):
    """Return the cross-cut with the rows and columns of the pick."""
    return ascending({number: pick[number][0] for number in pick})


def cut(table):
    """Return a cross-cut of the table; None if there is none."""
    need_table(table)
    many = len(table[0])
    if len(table) >= 2 * many - 1:
        return columns_of(grow(table_book(table), {})[-1])
    if many > MOST_SEARCHED:
        raise TooMany(MOST_SEARCHED)
    pick = pick_of(table_book(table), many)
    return None if pick is None else columns_of(pick)


def cut_by(table, pick):
    """Return the cross-cut with the rows and columns of this pick of n pairs of the table's book."""
    book = table_book(table)
    if not is_pick(book, pick) or len(pick) != len(table[0]):
        raise BadPick("a pick of n pairs of the book of the table is due")
    return columns_of(pick)
