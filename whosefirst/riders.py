"""Riders: travellers with a place on a road, what they see and what they call."""

from whosefirst.asks import ask_happening, asked_above_nought, asked_ratio
from whosefirst.books import ask_book
from whosefirst.called import called_order
from whosefirst.errors import BadRider, Unlike
from whosefirst.lots import order_by
from whosefirst.news import ask_road, left_of, right_of, spot_of_lights
from whosefirst.paces import Pace, ask_pace, take_part
from whosefirst.ratios import Ratio, greatest_of, take_ratio
from whosefirst.texts import Words


class Rider:
    """A pace and a stand; where its right light is u, its left light is p u + q."""

    def __init__(self, pace, stand):
        ask_pace(pace, "pace")
        place = asked_ratio(stand, "stand")
        if pace.axes != 1:
            raise Unlike("road")
        along = pace.parts[0]
        self.pace = pace
        self.stand = place
        self.p = (along + 1).over(Ratio(1) - along)
        self.q = (self.p + 1) * place

    @staticmethod
    def of_line(p, q):
        """The rider with these p and q."""
        beats, shift = asked_above_nought(p, "p"), asked_ratio(q, "q")
        return Rider(Pace([(beats - 1).over(beats + 1)]), shift.over(beats + 1))

    @staticmethod
    def read(text):
        """The Rider with this text."""
        words = Words(text)
        pace = Pace([take_part(words, [])])
        stand = take_ratio(words)
        words.finish()
        return Rider(pace, stand)

    def __eq__(self, other):
        return isinstance(other, Rider) and self.pace == other.pace and self.stand == other.stand

    def __str__(self):
        return f"{self.pace} {self.stand}"


def rider_mark(book, rider, name):
    """The mark of a happening: p times the right light of the rider who sees it."""
    ask_ridden_name(book, rider, name)
    return mark_of_name(book, rider, name)


def rider_side(book, rider, name):
    """1 if a happening lies left of the rider, 0 if the rider goes through it, -1 if it lies right."""
    ask_ridden_name(book, rider, name)
    before, behind = marks_of_name(book, rider, name)
    return (before - behind).sign


def rider_sight(book, rider, name):
    """The step from the begin to the time and the place at which the rider sees a happening."""
    ask_ridden_name(book, rider, name)
    mark = mark_of_name(book, rider, name)
    return spot_of_lights(mark.over(rider.p), mark + rider.q)


def seen_order_of(book, rider):
    """The order in which the rider sees all happenings."""
    ask_ridden(book, rider)
    ask_road(book)
    return order_by({name: mark_of_name(book, rider, name) for name in book})


def called_order_of(book, rider):
    """The order in which the rider calls all happenings."""
    ask_ridden(book, rider)
    ask_road(book)
    return called_order(book, rider.pace)


def ask_rider(value, part):
    """A parameter must be a Rider."""
    if not isinstance(value, Rider):
        raise BadRider(part)


def ask_ridden(book, rider):
    """The parameters book and rider must be such."""
    ask_book(book)
    ask_rider(rider, "rider")


def ask_ridden_name(book, rider, name):
    """The parameters must be a book of a road, a rider and the name of a happening."""
    ask_ridden(book, rider)
    ask_happening(book, name)
    ask_road(book)


def marks_of_name(book, rider, name):
    """What a happening's mark is if it lies left, and if it lies right."""
    return rider.p * right_of(book, name), left_of(book, name) - rider.q


def mark_of_name(book, rider, name):
    """The mark of a happening of a road."""
    return greatest_of(marks_of_name(book, rider, name))
