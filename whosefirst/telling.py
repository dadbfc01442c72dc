"""Which happenings of a book reach which, and which are apart."""

from whosefirst.books import ask_book


def kind_between(book, one, other):
    """The kind of the step from one happening to another one."""
    ask_book(book)
    begin, end = book.spot_of(one), book.spot_of(other)
    return (end - begin).kind


def does_reach(book, one, other):
    """Whether one happening reaches another one."""
    return kind_between(book, one, other) == "forward"


def reached_pairs(book):
    """All pairs of names of which the first reaches the second, ascending."""
    ask_book(book)
    return tuple([(one, other) for one in book for other in book if does_reach(book, one, other)])


def apart_pairs(book):
    """All pairs of names that are apart, each once, the lesser name ahead, ascending."""
    ask_book(book)
    pairs = [(one, other) for one in book for other in book if one < other]
    return tuple([pair for pair in pairs if kind_between(book, pair[0], pair[1]) == "apart"])


def are_all_apart(book, names):
    """Whether each two of some unlike names of the book are apart."""
    return all([kind_between(book, one, other) == "apart" for one in names for other in names if one != other])
