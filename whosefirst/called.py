"""What a traveller calls of a book: worths, orders, how long spans last."""

from whosefirst.asks import ask_all_known, ask_equal_axes
from whosefirst.books import ask_book, ask_span
from whosefirst.lots import order_by
from whosefirst.paces import ask_pace, worth_of


def called_worth(book, pace, span):
    """The worth of the step of a span."""
    ask_book(book)
    ask_pace(pace, "pace")
    ask_span(span, "span")
    ask_equal_axes(pace, book)
    return worth_of(book.step_of(span), pace)


def called_sign(book, pace, span):
    """1 if the span is called late, 0 level, -1 early."""
    return called_worth(book, pace, span).sign


def called_order(book, pace):
    """The order in which the traveller calls all happenings."""
    ask_book(book)
    ask_pace(pace, "pace")
    ask_equal_axes(pace, book)
    return order_by({name: worth_of(book.spot_of(name), pace) for name in book})


def called_quotient(book, pace, one, other):
    """How many times as long as the span other the span one lasts; None where other is called level."""
    ask_book(book)
    ask_pace(pace, "pace")
    ask_span(one, "one")
    ask_span(other, "other")
    ask_equal_axes(pace, book)
    ask_all_known(book, one.names)
    length = called_worth(book, pace, other)
    return None if length.sign == 0 else called_worth(book, pace, one).over(length)
