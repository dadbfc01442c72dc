"""Whether one traveller keeps rows, or nobody's weights show that nobody does."""

from whosefirst.asks import ask_all_known, ask_equal_axes
from whosefirst.books import ask_book
from whosefirst.calling import pace_or_weights
from whosefirst.errors import BadNumber, BadRow, TooMany, Unlike
from whosefirst.lots import ask_order, names_in
from whosefirst.paces import ask_pace, worth_of
from whosefirst.papers import Denial, Paper
from whosefirst.ratios import are_ratios
from whosefirst.rows import Row, are_rows, is_kept
from whosefirst.steps import Step

MOST_ROWS = 24


class Somebody(Paper):
    """A pace that keeps all rows."""

    def __init__(self, pace):
        super().__init__("somebody", pace)
        self.pace = self.parts[0]


class Nobody(Denial):
    """Nobody's weights for rows."""

    def __init__(self, weights):
        super().__init__("nobody", weights)
        self.weights = self.parts[0]


def keeps_rows(book, pace, rows):
    """Whether the traveller of a pace keeps all rows."""
    ask_book(book)
    ask_pace(pace, "pace")
    ask_rows(rows, "rows")
    ask_equal_axes(pace, book)
    ask_rows_known(book, rows)
    return all([is_kept(row.kind, worth_of(book.step_of(row.span), pace).sign) for row in rows])


def find_caller(book, rows):
    """The Somebody with a pace that keeps all rows, or the Nobody with nobody's weights."""
    ask_book(book)
    ask_rows(rows, "rows")
    ask_rows_known(book, rows)
    if len(rows) > MOST_ROWS:
        raise TooMany("rows", MOST_ROWS)
    steps = [book.step_of(row.span) for row in rows]
    pace, weights = pace_or_weights(steps, [row.kind for row in rows], book.axes)
    return Nobody(weights) if pace is None else Somebody(pace)


def weighted_step(book, rows, weights):
    """The Step that the steps of the rows' spans, each times its weight, add up to."""
    ask_book(book)
    ask_rows(rows, "rows")
    if not are_ratios(weights):
        raise BadNumber("weights")
    ask_rows_known(book, rows)
    if len(weights) != len(rows):
        raise Unlike("weights")
    total = Step.nothing(book.axes)
    for row, weight in zip(rows, weights):
        total = total + book.step_of(row.span) * weight
    return total


def order_rows(order):
    """The rows of each two neighbours of an order: level in one lot, otherwise the first ahead."""
    ask_order(order, "order")
    names = names_in(order)
    lots = [number for number, lot in enumerate(order) for _ in lot]
    rows = []
    for k in range(1, len(names)):
        is_level = lots[k] == lots[k - 1]
        rows.append(Row.level(names[k - 1], names[k]) if is_level else Row.ahead(names[k - 1], names[k]))
    return tuple(rows)


def ask_rows(rows, part):
    """A parameter must be a list of Rows, perhaps of none."""
    if not are_rows(rows):
        raise BadRow(part)


def ask_rows_known(book, rows):
    """All names of the rows must be in the book."""
    ask_all_known(book, [name for row in rows for name in row.span.names])
