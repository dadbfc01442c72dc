"""Called orders: all of a book, and who calls one that is told."""

from whosefirst.books import ask_book
from whosefirst.called import called_order
from whosefirst.callers import find_caller, order_rows
from whosefirst.flats import MOST_HAPPENINGS
from whosefirst.levels import ask_few, paces_in_parts
from whosefirst.lots import ask_book_order
from whosefirst.papers import Paper


class Called(Paper):
    """A called order, and a pace that calls it."""

    def __init__(self, order, pace):
        super().__init__("called", order, pace)
        self.order = self.parts[0]
        self.pace = self.parts[1]


def called_orders(book):
    """The Calleds of all called orders, ascending."""
    ask_book(book)
    ask_few(book, MOST_HAPPENINGS)
    paces = {called_order(book, pace): pace for _, found in paces_in_parts(book) for pace in found}
    return tuple([Called(order, paces[order]) for order in sorted(list(paces))])


def caller_of(book, order):
    """The Somebody who calls an order, or the Nobody that bars it."""
    ask_book(book)
    ask_book_order(book, order, "order")
    return find_caller(book, order_rows(order))
