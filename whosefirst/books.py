"""Books: happenings, each with a name, a time and a place."""

from whosefirst.asks import ask_all_known, ask_happening, ask_some_names, is_axes
from whosefirst.checks import first_twice, is_listed, is_name
from whosefirst.errors import BadBook, BadNumber, BadSpan, BadText, SameSpot, TooMany, Twice, Unlike
from whosefirst.ratios import Ratio, are_ratios, is_ratio, take_ratio
from whosefirst.spans import Span
from whosefirst.steps import Step
from whosefirst.texts import Words

MOST_HAPPENINGS = 8


class Book:
    """Axes and 1 to 8 happenings, no two with one time and place."""

    def __init__(self, axes, spots):
        if not is_axes(axes):
            raise BadBook("axes")
        if not are_spots(spots, axes):
            raise BadBook("spots")
        if len(spots) > MOST_HAPPENINGS:
            raise TooMany("happenings", MOST_HAPPENINGS)
        self.axes = axes
        self.names = tuple(sorted(list(spots)))
        self._spots = {name: Step(spots[name][0], spots[name][1]) for name in self.names}
        pair = first_same_pair(self._spots)
        if pair is not None:
            raise SameSpot(pair[0], pair[1])

    @staticmethod
    def read(text):
        """The Book with this text."""
        words = Words(text)
        axes = int(words.take_of(("1", "2", "3")))
        spots = {}
        take_happening(words, axes, spots, "")
        while not words.is_done():
            if words.coming() != "/" or len(spots) == MOST_HAPPENINGS:
                raise BadText(0, words.at)
            words.take()
            take_happening(words, axes, spots, list(spots)[-1])
        return book_of(axes, spots)

    def __len__(self):
        return len(self.names)

    def __iter__(self):
        return iter(self.names)

    def __contains__(self, x):
        return isinstance(x, str) and x in self._spots

    def __eq__(self, other):
        return isinstance(other, Book) and self.axes == other.axes and self._spots == other._spots

    def __str__(self):
        happenings = " / ".join([f"{name} {self._spots[name]}" for name in self.names])
        return f"{self.axes} {happenings}"

    def spot_of(self, name):
        """The step to a happening from the begin."""
        ask_happening(self, name)
        return self._spots[name]

    def step_of(self, span):
        """The step of a span: the sum of the steps to its happenings, each as many times as the span tells."""
        ask_span(span, "span")
        ask_all_known(self, span.names)
        numbers = [Ratio(0)] * (self.axes + 1)
        for name, times in span.terms:
            spot = self._spots[name]
            numbers = [one + more * times for one, more in zip(numbers, (spot.time, *spot.place))]
        return Step(numbers[0], numbers[1:])

    def with_happening(self, name, time, place):
        """The book with one happening more."""
        if not is_name(name):
            raise BadBook("name")
        if not is_ratio(time):
            raise BadNumber("time")
        if not are_ratios(place):
            raise BadNumber("place")
        if len(place) != self.axes:
            raise Unlike("axes")
        if name in self:
            raise Twice(name)
        spots = {known: (self._spots[known].time, self._spots[known].place) for known in self.names}
        spots[name] = (time, place)
        return Book(self.axes, spots)

    def kept(self, names):
        """The book with just these happenings."""
        ask_some_names(self, names)
        return book_of(self.axes, {name: self._spots[name] for name in names})

    def renamed(self, names):
        """The book with new names for some of its happenings."""
        if not is_renaming(names):
            raise BadBook("names")
        ask_all_known(self, names)
        fresh = [names.get(name, name) for name in self.names]
        twice = first_twice(fresh)
        if twice is not None:
            raise Twice(twice)
        return book_of(self.axes, {new: self._spots[name] for new, name in zip(fresh, self.names)})


def are_spots(spots, axes):
    """Whether any value is a dict from one or more names to times and places of so many axes."""
    if not isinstance(spots, dict) or len(spots) == 0:
        return False
    return all([is_name(name) and is_spot(spots[name], axes) for name in spots])


def is_spot(value, axes):
    """Whether any value is a pair of a time and a place of so many axes."""
    if not is_listed(value) or len(value) != 2:
        return False
    return is_ratio(value[0]) and are_ratios(value[1]) and len(value[1]) == axes


def is_renaming(names):
    """Whether any value is a dict from names to names."""
    return isinstance(names, dict) and all([is_name(name) and is_name(names[name]) for name in names])


def first_same_pair(spots):
    """The first pair of names with one step in a dict from ascending names to steps; None without one."""
    names = list(spots)
    for at, one in enumerate(names):
        for other in names[at + 1:]:
            if spots[one] == spots[other]:
                return one, other
    return None


def take_happening(words, axes, spots, above):
    """Puts the coming words of a text, a name greater than above, a time and a place, into spots, as a Step."""
    name = words.take_name(above)
    time = take_ratio(words)
    spot = Step(time, [take_ratio(words) for _ in range(axes)])
    if spot in list(spots.values()):
        raise BadText(0, words.at - 1)
    spots[name] = spot


def book_of(axes, spots):
    """The Book of a dict from names to the steps to the happenings."""
    return Book(axes, {name: (spots[name].time, spots[name].place) for name in spots})


def changed_book(book, change):
    """The book with the step to each happening changed by a function."""
    return book_of(book.axes, {name: change(book.spot_of(name)) for name in book})


def ask_book(book):
    """The parameter book must be a Book."""
    if not isinstance(book, Book):
        raise BadBook("book")


def ask_span(value, part):
    """A parameter must be a Span."""
    if not isinstance(value, Span):
        raise BadSpan(part)
