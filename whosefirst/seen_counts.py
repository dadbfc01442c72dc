"""Strict orders that some eye sees: counted and numbered, without going through them."""

from whosefirst.books import ask_book
from whosefirst.checks import is_within
from whosefirst.errors import BadNumber
from whosefirst.news import ask_road
from whosefirst.seen import ask_whole_order
from whosefirst.weaves import light_numbers


class Counts:
    """How many strict orders behind some first names some eye sees; kept, as many beginnings lead to the same names."""

    def __init__(self, book):
        self.lights = light_numbers(book)
        self.known = {book.names: 1}

    def next_names(self, seen):
        """The names that can be seen alone behind some names, ascending: those with which these bring no other one."""
        left = [name for name in self.lights if name not in seen]
        return [name for name in left if self.brings_no_other([*seen, name])]

    def brings_no_other(self, names):
        """Whether some names bring just themselves."""
        right = max([self.lights[name][0] for name in names])
        left = max([self.lights[name][1] for name in names])
        return len(names) == len([name for name, (u, w) in self.lights.items() if u <= right and w <= left])

    def behind(self, seen):
        """How many strict orders some eye sees whose first names are some, in whatever order one sees them."""
        mark = tuple(sorted(seen))
        if mark not in self.known:
            self.known[mark] = sum([self.behind([*seen, name]) for name in self.next_names(seen)])
        return self.known[mark]


def seen_count(book):
    """How many strict orders of all happenings some eye sees."""
    ask_book(book)
    ask_road(book)
    return Counts(book).behind([])


def seen_number(book, number):
    """The strict order with a number that some eye sees."""
    ask_book(book)
    if not is_within(number, 0, None):
        raise BadNumber("number")
    ask_road(book)
    counts = Counts(book)
    if number >= counts.behind([]):
        raise BadNumber("number")
    seen = []
    left = number
    while len(seen) < len(book):
        for name in counts.next_names(seen):
            many = counts.behind([*seen, name])
            if left < many:
                seen = [*seen, name]
                break
            left = left - many
    return tuple([(name,) for name in seen])


def number_seen(book, order):
    """The number of an order, None if it is no strict one that some eye sees."""
    ask_whole_order(book, order)
    counts = Counts(book)
    seen = []
    number = 0
    for lot in order:
        names = counts.next_names(seen)
        if len(lot) > 1 or lot[0] not in names:
            return None
        number = number + sum([counts.behind([*seen, name]) for name in names if name < lot[0]])
        seen.append(lot[0])
    return number
