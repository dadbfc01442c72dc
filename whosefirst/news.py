"""Lights of a road: who is where the news of happenings is."""

from whosefirst.asks import ask_happening, ask_names, ask_some_names, asked_ratio
from whosefirst.books import ask_book
from whosefirst.errors import Unlike
from whosefirst.lots import names_in, order_by
from whosefirst.ratios import Ratio, greatest_of, least_of
from whosefirst.steps import Step
from whosefirst.telling import are_all_apart


def light_right(book, name):
    """The right light of a happening: its time less its place."""
    ask_book(book)
    ask_happening(book, name)
    ask_road(book)
    return right_of(book, name)


def light_left(book, name):
    """The left light of a happening: its time and its place added up."""
    ask_book(book)
    ask_happening(book, name)
    ask_road(book)
    return left_of(book, name)


def right_order(book):
    """The order of all names by right lights, least first."""
    ask_book(book)
    ask_road(book)
    return order_by({name: right_of(book, name) for name in book})


def left_order(book):
    """The order of all names by left lights, least first."""
    ask_book(book)
    ask_road(book)
    return order_by({name: left_of(book, name) for name in book})


def meet_of(book, names):
    """The greatest right light and the greatest left light of some happenings."""
    ask_some_of_road(book, names)
    return greatest_lights(book, names)


def first_news(book, names):
    """The step from the begin to where the news of all of some happenings is first."""
    ask_some_of_road(book, names)
    right, left = greatest_lights(book, names)
    return spot_of_lights(right, left)


def last_call(book, names):
    """The step from the begin to the last time and place whose news comes to all of some happenings."""
    ask_some_of_road(book, names)
    right = least_of([right_of(book, name) for name in names])
    left = least_of([left_of(book, name) for name in names])
    return spot_of_lights(right, left)


def left_to_right(book, names):
    """The names of a crowd from left to right."""
    ask_book(book)
    ask_names(book, names)
    ask_road(book)
    if not are_all_apart(book, names):
        raise Unlike("crowd")
    return tuple(names_in(order_by({name: book.spot_of(name).place[0] for name in names})))


def spot_of_lights(right, left):
    """The step from the begin to the time and place with these lights."""
    late, far = asked_ratio(right, "right"), asked_ratio(left, "left")
    half = Ratio(1, 2)
    return Step((far + late) * half, [(far - late) * half])


def right_of(book, name):
    """The right light of a happening of a road."""
    spot = book.spot_of(name)
    return spot.time - spot.place[0]


def left_of(book, name):
    """The left light of a happening of a road."""
    spot = book.spot_of(name)
    return spot.time + spot.place[0]


def greatest_lights(book, names):
    """The greatest right light and the greatest left light of some happenings of a road."""
    right = greatest_of([right_of(book, name) for name in names])
    left = greatest_of([left_of(book, name) for name in names])
    return right, left


def ask_road(book):
    """A book must be one of a road."""
    if book.axes != 1:
        raise Unlike("road")


def ask_some_of_road(book, names):
    """The parameters book and names must be a book of a road, and one or more names of it."""
    ask_book(book)
    ask_some_names(book, names)
    ask_road(book)
