"""Whether papers about who keeps rows are right."""

from whosefirst.books import ask_book
from whosefirst.callers import Nobody, Somebody, ask_rows, ask_rows_known, keeps_rows, weighted_step
from whosefirst.checks import is_listed, is_within
from whosefirst.clashes import Clash
from whosefirst.paces import Pace
from whosefirst.ratios import Ratio, are_ratios


def shows_caller(book, rows, value):
    """Whether any value is a Somebody with a pace that keeps all rows, or a Nobody with nobody's weights."""
    ask_book_and_rows(book, rows)
    if type(value) is Nobody:
        return are_nobodys(book, rows, value.weights)
    return is_right_somebody(book, rows, value)


def shows_clash(book, rows, value):
    """Whether any value is a Somebody with a pace that keeps all rows, or a Clash with what shows it."""
    ask_book_and_rows(book, rows)
    if type(value) is not Clash:
        return is_right_somebody(book, rows, value)
    if not are_numbers_of(rows, value.numbers):
        return False
    barred = [rows[number] for number in value.numbers]
    return are_nobodys(book, barred, value.weights) and keep_all_but_one(book, barred, value.paces)


def ask_book_and_rows(book, rows):
    """The parameters book and rows must be a book and rows of its happenings."""
    ask_book(book)
    ask_rows(rows, "rows")
    ask_rows_known(book, rows)


def is_right_somebody(book, rows, value):
    """Whether any value is a Somebody with a pace that keeps all rows."""
    return type(value) is Somebody and is_keeper(book, value.pace, rows)


def is_keeper(book, value, rows):
    """Whether any value is a Pace of the book's axes that keeps all rows."""
    return isinstance(value, Pace) and value.axes == book.axes and keeps_rows(book, value, rows)


def are_nobodys(book, rows, weights):
    """Whether any value is a list of nobody's weights for the rows."""
    if not are_ratios(weights) or len(weights) != len(rows):
        return False
    signs = [Ratio.of(weight).sign for weight in weights]
    if not all([sign >= 0 or row.kind == "=" for row, sign in zip(rows, signs)]):
        return False
    kind = weighted_step(book, rows, weights).kind
    is_late = any([sign > 0 and row.kind == ">" for row, sign in zip(rows, signs)])
    return kind == "backward" or (kind == "nothing" and is_late)


def are_numbers_of(rows, numbers):
    """Whether any value is a list of numbers of rows, ascending, each once."""
    if not is_listed(numbers) or not all([is_within(number, 0, len(rows) - 1) for number in numbers]):
        return False
    return all([one < other for one, other in zip(numbers, numbers[1:])])


def keep_all_but_one(book, rows, paces):
    """Whether any value is a list of paces, for each row one that keeps the others."""
    if not is_listed(paces) or len(paces) != len(rows):
        return False
    return all([is_keeper(book, pace, [*rows[:at], *rows[at + 1:]]) for at, pace in enumerate(paces)])
