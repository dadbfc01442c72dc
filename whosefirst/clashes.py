"""Clashes: the rows that bar one another, so that somebody keeps them only if one is left out."""

from whosefirst.books import ask_book
from whosefirst.callers import MOST_ROWS, Somebody, ask_rows, ask_rows_known
from whosefirst.calling import pace_or_weights
from whosefirst.errors import TooMany
from whosefirst.papers import Denial

MOST_ROWS_FOR_ALL = 8


class Clash(Denial):
    """The numbers of a clash, nobody's weights for these rows, and for each a pace that keeps the others."""

    def __init__(self, numbers, weights, paces):
        super().__init__("clash", numbers, weights, paces)
        self.numbers = self.parts[0]
        self.weights = self.parts[1]
        self.paces = self.parts[2]


class Asked:
    """The rows that are asked about, by their steps and kinds; the numbers of some of them tell what is asked."""

    def __init__(self, book, rows):
        self.steps = [book.step_of(row.span) for row in rows]
        self.kinds = [row.kind for row in rows]
        self.axes = book.axes

    def answer(self, numbers):
        """A Pace that keeps the rows with these numbers, and None; or None, and nobody's weights for them."""
        steps = [self.steps[number] for number in numbers]
        return pace_or_weights(steps, [self.kinds[number] for number in numbers], self.axes)


def least_clash(book, rows):
    """The Somebody with a pace that keeps all rows, or a Clash of them."""
    ask_some_rows(book, rows, MOST_ROWS)
    asked = Asked(book, rows)
    pace, weights = asked.answer(list(range(len(rows))))
    if pace is not None:
        return Somebody(pace)
    # Rows whose weights are 0 are not needed to bar the others.
    numbers = [number for number, weight in enumerate(weights) if weight.sign != 0]
    paces = {}
    for number in list(numbers):
        others = [other for other in numbers if other != number]
        paces[number], _ = asked.answer(others)
        if paces[number] is None:
            numbers = others
    _, weights = asked.answer(numbers)
    return Clash(numbers, weights, [paces[number] for number in numbers])


def all_clashes(book, rows):
    """All clashes of the rows: those with fewer numbers first, those with equally many in the order of tuples."""
    ask_some_rows(book, rows, MOST_ROWS_FOR_ALL)
    asked = Asked(book, rows)
    found = []
    lists = [()]
    # A clash has at most one number more than there are axes.
    for _ in range(book.axes + 1):
        longer = [(*numbers, more) for numbers in lists for more in range(len(rows)) if more > max(numbers, default=-1)]
        # What has a clash in it is no clash, nor is what is made longer from it.
        lists = [numbers for numbers in longer if not any([has_all(numbers, clash) for clash in found])]
        barred = [numbers for numbers in lists if asked.answer(numbers)[0] is None]
        found.extend(barred)
        lists = [numbers for numbers in lists if numbers not in barred]
    return tuple(found)


def ask_some_rows(book, rows, most):
    """The parameters book and rows must be a book and at most so many rows of its happenings."""
    ask_book(book)
    ask_rows(rows, "rows")
    ask_rows_known(book, rows)
    if len(rows) > most:
        raise TooMany("rows", most)


def has_all(numbers, others):
    """Whether some numbers have all of the others among them."""
    return all([other in numbers for other in others])
