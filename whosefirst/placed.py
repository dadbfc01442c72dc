"""Books on a road that tables are of, or what shows that a table is of none; and their patterns."""

from whosefirst.books import Book, ask_book
from whosefirst.checks import are_names, is_listed
from whosefirst.errors import BadPaper, Impossible, Unlike
from whosefirst.news import ask_road
from whosefirst.papers import Denial, Paper
from whosefirst.parting import first_sides, tree_of_parts
from whosefirst.tables import apart_in, are_tied, ask_table, does_lead, first_gap, leaders_from, sides_of
from whosefirst.telling import apart_pairs


class Placed(Paper):
    """A book on a road that a table is of."""

    def __init__(self, book):
        super().__init__("placed", book)
        self.book = self.parts[0]


class NoOrder(Denial):
    """Three names: one reaches middle, middle reaches other, one does not reach other."""

    def __init__(self, one, middle, other):
        super().__init__("noorder", one, middle, other)
        self.one = self.parts[0]
        self.middle = self.parts[1]
        self.other = self.parts[2]


class Ring(Denial):
    """Sides each of which is tied to the next one; the last one is the first one turned about."""

    def __init__(self, pairs):
        super().__init__("ring", pairs)
        self.pairs = self.parts[0]


def placed(table):
    """The Placed with a book on a road that a table is of, or the NoOrder or the Ring that bars it."""
    ask_table(table)
    denial = denial_of(table)
    if denial is not None:
        return denial
    return Placed(book_with(table, first_sides(table, tree_of_parts(table, list(table.names)))))


def pattern_of(book):
    """All sides of a book on a road."""
    ask_book(book)
    ask_road(book)
    places = {name: book.spot_of(name).place[0] for name in book}
    pairs = apart_pairs(book)
    sides = [pair if places[pair[0]].is_below(places[pair[1]]) else (pair[1], pair[0]) for pair in pairs]
    return tuple(sorted(sides))


def placed_as(table, pattern):
    """A book on a road that a table is of and that has this pattern."""
    ask_table(table)
    if not are_sides_for(table, pattern):
        raise BadPaper("pattern")
    ask_placed(table)
    sides = [(left, right) for left, right in pattern]
    if not is_pattern(table, sides):
        raise Unlike("pattern")
    return book_with(table, sides)


def ask_placed(table):
    """A table must be of some book on a road."""
    denial = denial_of(table)
    if denial is not None:
        raise Impossible(denial)


def denial_of(table):
    """The NoOrder or the Ring that shows that a table is of no book on a road, None without one."""
    gap = first_gap(table)
    if gap is not None:
        return NoOrder(gap[0], gap[1], gap[2])
    known = {}
    for side in sides_of(table):
        if side not in known:
            leaders = leaders_from(table, side)
            turned = (side[1], side[0])
            # Opposites of tied sides are tied: so if any side goes with its opposite here, this one does.
            if turned in leaders:
                return Ring(ring_by(leaders, turned))
            for other in leaders:
                known[other] = True
    return None


def ring_by(leaders, last):
    """The sides from the one that nothing leads to up to the last one."""
    ring = [last]
    while leaders[ring[-1]] is not None:
        ring.append(leaders[ring[-1]])
    return list(reversed(ring))


def are_sides_for(table, pattern):
    """Whether any value is a list of pairs of names with just one side for each two that are apart."""
    if not is_listed(pattern) or not all([are_names(side) and len(side) == 2 for side in pattern]):
        return False
    return sorted([(min(one, other), max(one, other)) for one, other in pattern]) == list(apart_in(table))


def is_pattern(table, sides):
    """Whether sides, one for each two that are apart, are a pattern of a table that is of some book on a road."""
    for side in sides:
        if not all([other in sides for other in sides_of(table) if are_tied(table, side, other)]):
            return False
    return not goes_round(sides)


def goes_round(sides):
    """Whether of three names the first is left of the second, this of the third, this of the first."""
    return any([(right, one) in sides and (one, left) in sides for left, right in sides for one, _ in sides])


def book_with(table, sides):
    """The book on a road with whole numbers that a table is of, with the sides of a pattern of it."""
    spots = {}
    for name in table.names:
        reaching = [other for other in table.names if does_lead(table, other, name)]
        # Twice the lights that these numbers can be, so that times and places are whole.
        right = len(reaching) + len([other for other in table.names if (name, other) in sides])
        left = len(reaching) + len([other for other in table.names if (other, name) in sides])
        spots[name] = (left + right, [left - right])
    return Book(1, spots)
