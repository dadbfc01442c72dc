"""What is asked of arguments that several files take: the wrong ones are told as errors."""

from whosefirst.checks import first_twice, is_listed, is_within
from whosefirst.errors import BadNumber, BadOrder, NoHappening, Twice, Unlike
from whosefirst.ratios import Ratio, is_ratio

MOST_AXES = 3


def asked_ratio(value, part):
    """The Ratio of a ratio."""
    if not is_ratio(value):
        raise BadNumber(part)
    return Ratio.of(value)


def asked_above_nought(value, part):
    """The Ratio of a ratio above 0."""
    if not is_ratio(value) or Ratio.of(value).sign != 1:
        raise BadNumber(part)
    return Ratio.of(value)


def is_axes(value):
    """Whether any value is a number of axes."""
    return is_within(value, 1, MOST_AXES)


def ask_axes(value):
    """The parameter axes must be a number of axes."""
    if not is_axes(value):
        raise BadNumber("axes")


def ask_axis(value, axes, part):
    """A parameter must be one of so many axes."""
    if not is_within(value, 0, axes - 1):
        raise BadNumber(part)


def ask_two_axes(one, other, axes):
    """The parameters one and other must be two of so many axes."""
    ask_axis(one, axes, "one")
    ask_axis(other, axes, "other")
    if one == other:
        raise BadNumber("other")


def ask_equal_axes(one, other):
    """Two values that have axes must have as many."""
    if one.axes != other.axes:
        raise Unlike("axes")


def ask_happening(book, value):
    """A value must be the name of a happening of the book."""
    if value not in book:
        raise NoHappening(value)


def ask_all_known(book, names):
    """All of these names must be in the book: the first one, ascending, that is not is told."""
    for name in sorted(list(names)):
        ask_happening(book, name)


def ask_names(book, names):
    """The parameter names must be a list of unlike names of the book, perhaps of none."""
    if not is_listed(names):
        raise BadOrder("names")
    for value in names:
        ask_happening(book, value)
    twice = first_twice(names)
    if twice is not None:
        raise Twice(twice)


def ask_some_names(book, names):
    """The parameter names must be a list of one or more unlike names of the book."""
    if is_listed(names) and len(names) == 0:
        raise BadOrder("names")
    ask_names(book, names)
