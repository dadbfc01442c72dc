"""What eyes that rest see."""

from whosefirst.asks import asked_ratio
from whosefirst.books import ask_book
from whosefirst.lots import order_by
from whosefirst.news import ask_road, left_of, right_of
from whosefirst.ratios import Ratio, greatest_of, over_one_bottom


def resting_order(book, place):
    """The order in which an eye that rests at a place sees all happenings."""
    ask_book(book)
    spot = asked_ratio(place, "place")
    ask_road(book)
    return order_resting(book, spot)


def resting_orders(book):
    """All orders in which eyes that rest see all happenings, from far left to far right, each with a place."""
    ask_book(book)
    ask_road(book)
    found = []
    for place in places_to_look_at(book):
        order = order_resting(book, place)
        if not found or found[-1][0] != order:
            found.append((order, place))
    return tuple(found)


def order_resting(book, place):
    """The order in which an eye that rests at a place of a road sees all happenings."""
    return order_by({name: greatest_of([right_of(book, name) + place, left_of(book, name) - place]) for name in book})


def places_to_look_at(book):
    """All places at which two lights come at one moment, one between each two, and one to either side of all."""
    lights, bottom = over_one_bottom([right_of(book, name) for name in book] + [left_of(book, name) for name in book])
    rights, lefts = lights[:len(book)], lights[len(book):]
    # The place is half of this number, so that all of these are even in fourths.
    meets = [2 * (left - right) for left in lefts for right in rights]
    turning = sorted(set(meets))
    between = [(one + other) // 2 for one, other in zip(turning, turning[1:])]
    places = [turning[0] - 1, *turning, *between, turning[-1] + 1]
    return [Ratio(place, 4 * bottom) for place in sorted(places)]
