"""Words of sayings about riders: always, never, or open."""

from whosefirst.asks import ask_all_known
from whosefirst.books import ask_book
from whosefirst.checks import is_listed
from whosefirst.errors import BadRow, Impossible, TooMany, Unlike
from whosefirst.forms import Told, does_keep, opposite_form, point_or_weights
from whosefirst.news import ask_road
from whosefirst.ratios import Ratio
from whosefirst.rider_forms import FORM_SIZE, form_of_row, form_of_side, untold_names
from whosefirst.rider_rows import is_rider_row, names_of, rider_worth, seen_names_of
from whosefirst.riders import Rider, ask_rider
from whosefirst.rows import is_row
from whosefirst.sayings import ask_saying
from whosefirst.settling import Look, are_open, joined_look, row_to_cut, settled_look, settled_parts
from whosefirst.words import Never, Open, paper_of_look

MOST_ROWS = 4
MOST_NAMES = 4
MOST_GIVEN = 24


class RiderWay:
    """A way down a tree: the given rows, None for unclear ones, what is told on it, the sides and the signs told."""

    def __init__(self, given, told, sides, cuts):
        self.given = given
        self.told = told
        self.sides = sides
        self.cuts = cuts

    def with_side(self, book, rows, name, side):
        """The way, and below it the side of a happening told; rows are the given ones."""
        told = Told(form_of_side(book, name, side), ">=")
        sides = {**self.sides, name: side}
        return RiderWay(told_rows(book, rows, sides), [*self.told, told], sides, self.cuts)

    def with_cut(self, number, sign, form):
        """The way, and below it a row cut, its worth being of this sign; the form is that of the worth."""
        told = Told(opposite_form(form) if sign < 0 else form, ">" if sign != 0 else "=")
        return RiderWay(self.given, [*self.told, told], self.sides, {**self.cuts, number: sign})


class RiderSearch:
    """The search for a word goes down by sides and cuts."""

    def __init__(self, book, saying, given):
        self.book = book
        self.saying = saying
        self.given = given

    def look_down(self, way, known):
        """The Look at the end of a way; it ends as soon as both are found.

        What is known is the line of a rider who keeps all that is told on the way, or None: where
        such a rider goes, none is searched. Who is told at last is searched on the way found.
        """
        line = known
        if line is None:
            line, weights = line_or_weights(way)
            if line is None:
                return Look(("nobody", weights), None, None)
        untold = [name for row in self.given for name in untold_names(row, way.sides)]
        if untold:
            return self.look_by_side(way, line, untold[0])
        settled = settled_parts(self.saying, way.cuts)
        if settled[-1] is not None:
            return settled_look(settled[-1], way)
        number = row_to_cut(self.saying, settled)
        untold = untold_names(self.saying.rows[number], way.sides)
        return self.look_by_side(way, line, untold[0]) if untold else self.look_by_cut(way, line, number)

    def look_by_side(self, way, line, name):
        """The Look at the end of a way if the side of a happening is told next."""
        looks = []
        for side in ("left", "right"):
            if not are_open(looks):
                below = way.with_side(self.book, self.given, name, side)
                clear = [told for told in [*below.given, below.told[-1]] if told is not None]
                looks.append(self.look_down(below, line if all([does_keep(line, told) for told in clear]) else None))
        return joined_look(("side", name), looks)

    def look_by_cut(self, way, line, number):
        """The Look at the end of a way if a row is cut next."""
        form = form_of_row(self.book, self.saying.rows[number], way.sides)
        looks = []
        for sign in (1, 0, -1):
            if not are_open(looks):
                below = way.with_cut(number, sign, form)
                looks.append(self.look_down(below, line if does_keep(line, below.told[-1]) else None))
        return joined_look(("cut", number), looks)


def first_way(book, given):
    """The RiderWay to the top of a tree."""
    return RiderWay(told_rows(book, given, {}), [], {}, {})


def told_rows(book, rows, sides):
    """The given rows as Tolds, None for unclear ones."""
    forms = [form_of_row(book, row, sides) for row in rows]
    return [None if form is None else Told(form, row.kind) for row, form in zip(rows, forms)]


def line_or_weights(way):
    """The line of a rider who keeps all that is told on a way, and None; or None, and nobody's weights.

    A line is p, q and 1, each so many times, in whole numbers.
    """
    clear = [number for number, told in enumerate(way.given) if told is not None]
    # A rider's p is above 0; and the third number, of which p and q are so many times as great, is made so.
    ends = [Told([Ratio(1), Ratio(0), Ratio(0)], ">"), Told([Ratio(0), Ratio(0), Ratio(1)], ">")]
    point, found = point_or_weights([way.given[number] for number in clear] + way.told + ends, FORM_SIZE)
    if point is not None:
        return point[0], None
    weights = [Ratio(0)] * len(way.given)
    for number, weight in zip(clear, found):
        weights[number] = weight
    return None, weights + found[len(clear):-len(ends)]


def rider_on(way):
    """A Rider who keeps all that is told on a way, on which some rider is."""
    line, _ = line_or_weights(way)
    return Rider.of_line(Ratio(line[0], line[2]), Ratio(line[1], line[2]))


def rider_truth(book, saying, rider):
    """Whether a rider keeps a saying."""
    ask_book(book)
    ask_saying(saying, "saying")
    ask_rider(rider, "rider")
    ask_road(book)
    ask_rider_rows(saying.rows)
    ask_rider_names(book, saying.rows)
    signs = [rider_worth(book, rider, row).sign for row in saying.rows]
    return settled_parts(saying, dict(enumerate(signs)))[-1]


def rider_word(book, saying, given=()):
    """The Always, the Never or the Open of a saying, for all riders who keep the given rows."""
    ask_rider_word(book, saying, given)
    if len(saying.rows) > MOST_ROWS:
        raise TooMany("rows", MOST_ROWS)
    seen = [name for row in [*saying.rows, *given] for name in seen_names_of(row)]
    if len(set(seen)) > MOST_NAMES:
        raise TooMany("names", MOST_NAMES)
    if len(given) > MOST_GIVEN:
        raise TooMany("given", MOST_GIVEN)
    look = RiderSearch(book, saying, given).look_down(first_way(book, given), None)
    if look.keeper is None and look.breaker is None:
        # The sides that make the given rows clear come first: so no row is cut on a way that nobody goes.
        raise Impossible(Never(look.tree))
    if look.keeper is None or look.breaker is None:
        return paper_of_look(look)
    return Open(rider_on(look.keeper), rider_on(look.breaker))


def ask_rider_word(book, saying, given):
    """The parameters must be a book of a road, a saying about riders and given rows of riders, of its happenings."""
    ask_book(book)
    ask_saying(saying, "saying")
    if not is_listed(given) or not all([is_row(row) for row in given]):
        raise BadRow("given")
    ask_road(book)
    ask_rider_rows([*saying.rows, *given])
    ask_rider_names(book, [*saying.rows, *given])


def ask_rider_rows(rows):
    """All rows must be rows of riders."""
    if not all([is_rider_row(row) for row in rows]):
        raise Unlike("rows")


def ask_rider_names(book, rows):
    """All names of rows of riders must be in the book."""
    ask_all_known(book, [name for row in rows for name in names_of(row)])
