"""Rows of riders: what is called and seen, on which side happenings lie; and sayings by such rows."""

from whosefirst.asks import ask_all_known, asked_ratio
from whosefirst.books import ask_span
from whosefirst.checks import is_name
from whosefirst.errors import BadRow
from whosefirst.news import ask_road, left_of, right_of
from whosefirst.ratios import Ratio
from whosefirst.ready_sayings import ask_name, asked_others
from whosefirst.riders import ask_ridden, mark_of_name
from whosefirst.rows import KINDS, AnyRow, Row, is_kind
from whosefirst.sayings import all_of, of_row
from whosefirst.spans import Span, take_span
from whosefirst.texts import Words

SIDES = ("left", "through", "right")


class RiderRow(AnyRow):
    """A called span, a seen one, and a kind for what both come to."""

    def __init__(self, called, seen, kind):
        ask_span(called, "called")
        ask_span(seen, "seen")
        if not is_kind(kind):
            raise BadRow("kind")
        self.called = called
        self.seen = seen
        self.kind = kind
        self.names = tuple(sorted(set([*called.names, *seen.names])))

    @staticmethod
    def read(text):
        """The RiderRow with this text."""
        words = Words(text)
        words.take_of(("riderrow",))
        kind = words.take_of(KINDS)
        called = take_span(words, (";",))
        words.take_of((";",))
        seen = take_span(words)
        words.finish()
        return RiderRow(called, seen, kind)

    def __eq__(self, other):
        if not isinstance(other, RiderRow):
            return False
        return self.called == other.called and self.seen == other.seen and self.kind == other.kind

    def __str__(self):
        return f"riderrow {self.kind} {self.called} ; {self.seen}"


class SideRow(AnyRow):
    """A name and on which side of the rider the happening lies, or that the rider goes through it."""

    def __init__(self, name, side):
        if not is_name(name):
            raise BadRow("name")
        if not isinstance(side, str) or side not in SIDES:
            raise BadRow("side")
        self.name = name
        self.side = side
        self.kind = "=" if side == "through" else ">"
        self.names = (name,)

    @staticmethod
    def read(text):
        """The SideRow with this text."""
        words = Words(text)
        words.take_of(("siderow",))
        name = words.take_name("")
        side = words.take_of(SIDES)
        words.finish()
        return SideRow(name, side)

    def __eq__(self, other):
        return isinstance(other, SideRow) and self.name == other.name and self.side == other.side

    def __str__(self):
        return f"siderow {self.name} {self.side}"


def rider_sign(book, rider, row):
    """The sign of the worth of a row of riders."""
    ask_ridden(book, rider)
    if not is_rider_row(row):
        raise BadRow("row")
    ask_road(book)
    ask_all_known(book, names_of(row))
    return rider_worth(book, rider, row).sign


def seen_ahead(one, other):
    """The saying that one is seen ahead of other."""
    return of_row(RiderRow(Span({}), asked_span(one, other), ">"))


def seen_with(one, other):
    """The saying that one is seen with other."""
    return of_row(RiderRow(Span({}), asked_span(one, other), "="))


def seen_first(name, names):
    """The saying that no other name of a list is seen ahead of a name."""
    spans = [Span.between(name, other) for other in asked_others(name, names)]
    sayings = [of_row(RiderRow(Span({}), span, ">=")) for span in spans]
    return all_of(*sayings)


def seen_last(name, names):
    """The saying that a name is seen ahead of no other name of a list."""
    spans = [Span.between(other, name) for other in asked_others(name, names)]
    sayings = [of_row(RiderRow(Span({}), span, ">=")) for span in spans]
    return all_of(*sayings)


def looks_longer(one, other, times=1):
    """The saying that the span between two names is seen to last longer than so many times what it is called to."""
    span = asked_span(one, other)
    share = asked_ratio(times, "times")
    return of_row(RiderRow(span * -share, span, ">"))


def seen_longer(one, other, third, fourth, times=1):
    """The saying that the span between two names is seen to last longer than so many times that between two others."""
    span = asked_span(one, other)
    ask_name(third, "third")
    ask_name(fourth, "fourth")
    share = asked_ratio(times, "times")
    return of_row(RiderRow(Span({}), span - Span.between(third, fourth) * share, ">"))


def lies_left(name):
    """The saying that a happening lies left of the rider."""
    ask_name(name, "name")
    return of_row(SideRow(name, "left"))


def goes_through(name):
    """The saying that the rider goes through a happening."""
    ask_name(name, "name")
    return of_row(SideRow(name, "through"))


def lies_right(name):
    """The saying that a happening lies right of the rider."""
    ask_name(name, "name")
    return of_row(SideRow(name, "right"))


def asked_span(one, other):
    """The span between the parameters one and other, which must be names."""
    ask_name(one, "one")
    ask_name(other, "other")
    return Span.between(one, other)


def is_rider_row(value):
    """Whether any value is a row of riders."""
    return isinstance(value, (Row, RiderRow, SideRow))


def names_of(row):
    """All names of a row of riders."""
    return row.span.names if isinstance(row, Row) else row.names


def seen_names_of(row):
    """The names of the seen span of a row of riders: their sides must be told for its worth to be clear."""
    return row.seen.names if isinstance(row, RiderRow) else ()


def rider_worth(book, rider, row):
    """The worth of a row of riders."""
    if isinstance(row, Row):
        return called_sum(book, rider, row.span)
    if isinstance(row, RiderRow):
        worth = called_sum(book, rider, row.called) * Ratio(1, 2)
        for name, times in row.seen.terms:
            worth = worth + mark_of_name(book, rider, name) * times
        return worth
    worth = rider.p * right_of(book, row.name) + rider.q - left_of(book, row.name)
    return -worth if row.side == "right" else worth


def called_sum(book, rider, span):
    """The sum over a span of p u + w."""
    total = Ratio(0)
    for name, times in span.terms:
        total = total + (rider.p * right_of(book, name) + left_of(book, name)) * times
    return total
