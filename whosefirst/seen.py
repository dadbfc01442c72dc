"""Whether some eye sees a book in an order, or states that are shut show that none does."""

from whosefirst.books import ask_book
from whosefirst.errors import Unlike
from whosefirst.lots import ask_book_order, names_in
from whosefirst.news import ask_road
from whosefirst.papers import Denial, Paper
from whosefirst.states import last_state, moves_by_lots, way_or_states
from whosefirst.weaves import Weave


class SeenBy(Paper):
    """A weave by which a book is seen in an order."""

    def __init__(self, weave):
        super().__init__("seenby", weave)
        self.weave = self.parts[0]


class Unseen(Denial):
    """States that are shut for an order."""

    def __init__(self, states):
        super().__init__("unseen", states)
        self.states = self.parts[0]


def find_eye(book, order):
    """The SeenBy of a weave by which a book is seen in an order, or the Unseen of states that are shut for it."""
    ask_whole_order(book, order)
    letters, states = way_or_states(moves_by_lots(book, order), last_state(book))
    return Unseen(states) if letters is None else SeenBy(Weave(letters))


def ask_whole_order(book, order):
    """The parameters must be a book of a road and an order of all its happenings."""
    ask_book(book)
    ask_book_order(book, order, "order")
    ask_road(book)
    if len(names_in(order)) != len(book):
        raise Unlike("order")
