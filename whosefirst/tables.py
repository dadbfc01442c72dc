"""Tables: of some names which reaches which; sides of names that are apart, and which go with one another."""

from whosefirst.books import ask_book
from whosefirst.checks import are_names, first_twice, is_listed, is_name
from whosefirst.errors import BadTable, BadText, NoHappening, TooMany, Twice, Unlike
from whosefirst.telling import reached_pairs
from whosefirst.texts import Words

MOST_NAMES = 7


class Table:
    """Names, and the pairs of which the first reaches the second."""

    def __init__(self, names, pairs):
        if not are_names(names) or len(names) == 0:
            raise BadTable("names")
        twice = first_twice(names)
        if twice is not None:
            raise Twice(twice)
        if len(names) > MOST_NAMES:
            raise TooMany("names", MOST_NAMES)
        if not are_pairs_of(names, pairs):
            raise BadTable("pairs")
        self.names = tuple(sorted(list(names)))
        self.pairs = tuple(sorted([(one, other) for one, other in pairs]))

    @staticmethod
    def read(text):
        """The Table with this text."""
        words = Words(text)
        names = [words.take_name("")]
        while words.coming() != "|":
            if len(names) == MOST_NAMES:
                raise BadText(0, words.at)
            names.append(words.take_name(names[-1]))
        words.take()
        pairs = take_pairs(words, names)
        words.finish()
        return Table(names, pairs)

    @staticmethod
    def of(book):
        """The Table that is of a book."""
        ask_book(book)
        if len(book) > MOST_NAMES:
            raise TooMany("names", MOST_NAMES)
        return Table(book.names, reached_pairs(book))

    def __eq__(self, other):
        return isinstance(other, Table) and self.names == other.names and self.pairs == other.pairs

    def __str__(self):
        return " ".join([*self.names, "|", text_of_pairs(self.pairs)])


def apart_in(table):
    """All pairs of names that are apart, each once, the lesser name ahead, ascending."""
    ask_table(table)
    return tuple([side for side in sides_of(table) if side[0] < side[1]])


def is_order(table):
    """Whether whatever reaches a name that reaches another one reaches this one."""
    ask_table(table)
    return first_gap(table) is None


def sides_with(table, left, right):
    """All sides that go with a side, ascending."""
    ask_table(table)
    ask_table_name(table, left)
    ask_table_name(table, right)
    ask_apart(table, left, right)
    return tuple(sorted(list(leaders_from(table, (left, right)))))


def are_pairs_of(names, pairs):
    """Whether any value is a list of pairs of unlike names of these, no two of them of the same names."""
    if not is_listed(pairs) or not all([is_pair_of(names, pair) for pair in pairs]):
        return False
    told = [(one, other) for one, other in pairs]
    return len(set([*told, *[(other, one) for one, other in told]])) == 2 * len(told)


def is_pair_of(names, pair):
    """Whether any value is a pair of unlike names of these."""
    if not is_listed(pair) or len(pair) != 2 or not all([is_name(name) and name in names for name in pair]):
        return False
    return pair[0] != pair[1]


def take_pairs(words, names):
    """The coming words of a text as the pairs of a table of these names."""
    if words.coming() == "-":
        words.take()
        return []
    pairs = [take_pair(words, names, [])]
    while not words.is_done():
        words.take_of((",",))
        pairs.append(take_pair(words, names, pairs))
    return pairs


def take_pair(words, names, pairs):
    """The coming words of a text as a pair of names behind some pairs."""
    above = pairs[-1] if pairs else ("", "")
    one = words.take_of([name for name in names if name >= above[0]])
    others = [name for name in names if name != one and (one, name) > above and (name, one) not in pairs]
    return one, words.take_of(others)


def text_of_pairs(pairs):
    """The pairs of a table as they stand in a text."""
    return " , ".join([f"{one} {other}" for one, other in pairs]) if pairs else "-"


def does_lead(table, one, other):
    """Whether one reaches other in a table."""
    return (one, other) in table.pairs


def are_apart(table, one, other):
    """Whether two names of a table are unlike and neither reaches the other."""
    return one != other and not does_lead(table, one, other) and not does_lead(table, other, one)


def first_gap(table):
    """Three names of which one reaches middle, this other, but one not other; None without such."""
    for one, middle in table.pairs:
        for other in table.names:
            if does_lead(table, middle, other) and not does_lead(table, one, other):
                return one, middle, other
    return None


def are_tied(table, one, other):
    """Whether two sides of a table are tied."""
    if one[0] == other[0]:
        return one[1] != other[1] and not are_apart(table, one[1], other[1])
    return one[1] == other[1] and not are_apart(table, one[0], other[0])


def sides_of(table):
    """All sides of a table, ascending: each two names that are apart, either ahead."""
    return [(one, other) for one in table.names for other in table.names if are_apart(table, one, other)]


def leaders_from(table, side):
    """For each side that goes with a side the one from which it was come to, tied to it; None for the side itself."""
    sides = sides_of(table)
    leaders = {side: None}
    ahead = [side]
    while ahead:
        one = ahead.pop()
        for other in sides:
            if other not in leaders and are_tied(table, one, other):
                leaders[other] = one
                ahead.append(other)
    return leaders


def ask_table(value):
    """The parameter table must be a Table."""
    if not isinstance(value, Table):
        raise BadTable("table")


def ask_table_name(table, value):
    """A value must be a name of the table."""
    if not isinstance(value, str) or value not in table.names:
        raise NoHappening(value)


def ask_apart(table, one, other):
    """Two names of a table must be apart."""
    if not are_apart(table, one, other):
        raise Unlike("apart")
