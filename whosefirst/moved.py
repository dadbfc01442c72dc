"""Books moved, mirrored, turned and enlarged."""

from whosefirst.asks import ask_axis, ask_two_axes, asked_above_nought, asked_ratio
from whosefirst.books import ask_book, changed_book
from whosefirst.errors import BadStep
from whosefirst.places import mirrored_place, turned_place
from whosefirst.steps import Step


def moved_book(book, step):
    """The book with a step added to all times and places."""
    ask_book(book)
    if not isinstance(step, Step):
        raise BadStep("step")
    return changed_book(book, lambda spot: spot + step)


def mirrored_book(book, axis):
    """The book with each place times -1 along the axis."""
    ask_book(book)
    ask_axis(axis, book.axes, "axis")
    return changed_book(book, lambda spot: Step(spot.time, mirrored_place(spot.place, axis)))


def time_turned(book):
    """The book with each time times -1."""
    ask_book(book)
    return changed_book(book, lambda spot: Step(-spot.time, spot.place))


def turned_book(book, one, other, ratio):
    """The book with all places turned by a ratio, the axis one being that of x, other that of y."""
    ask_book(book)
    ask_two_axes(one, other, book.axes)
    turn = asked_ratio(ratio, "ratio")
    return changed_book(book, lambda spot: Step(spot.time, turned_place(spot.place, one, other, turn)))


def enlarged_book(book, times):
    """The book with all times and places multiplied by a ratio above 0."""
    ask_book(book)
    ratio = asked_above_nought(times, "times")
    return changed_book(book, lambda spot: spot * ratio)
