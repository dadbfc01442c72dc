"""Whether papers about tables are right."""

from whosefirst.books import Book
from whosefirst.checks import are_names, is_listed
from whosefirst.placed import NoOrder, Placed, Ring
from whosefirst.tables import Table, are_apart, are_tied, ask_table, does_lead


def shows_placed(table, value):
    """Whether any value is a Placed, a NoOrder or a Ring that is right for a table."""
    ask_table(table)
    if type(value) is Placed:
        return is_of(table, value.book)
    if type(value) is NoOrder:
        return is_gap(table, value.parts)
    return type(value) is Ring and is_ring(table, value.pairs)


def is_of(table, book):
    """Whether any value is a book on a road that a table is of."""
    if not isinstance(book, Book) or book.axes != 1 or book.names != table.names:
        return False
    return Table.of(book) == table


def is_gap(table, names):
    """Whether three values are names of a table: one reaches middle, this other, but one does not reach other."""
    if not all([isinstance(name, str) and name in table.names for name in names]):
        return False
    one, middle, other = names
    return does_lead(table, one, middle) and does_lead(table, middle, other) and not does_lead(table, one, other)


def is_ring(table, pairs):
    """Whether any value is a ring of two or more sides of a table."""
    if not is_listed(pairs) or len(pairs) < 2 or not all([is_side(table, pair) for pair in pairs]):
        return False
    if not all([are_tied(table, one, other) for one, other in zip(pairs, pairs[1:])]):
        return False
    return pairs[-1] == (pairs[0][1], pairs[0][0])


def is_side(table, pair):
    """Whether any value is a side of a table."""
    if not are_names(pair) or len(pair) != 2 or not all([name in table.names for name in pair]):
        return False
    return are_apart(table, pair[0], pair[1])
