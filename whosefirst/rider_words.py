"""Words of sayings about riders: always, never, or open."""

from whosefirst.asks import ask_all_known
from whosefirst.books import ask_book
from whosefirst.checks import is_listed
from whosefirst.errors import BadRow, Impossible, TooMany, Unlike
from whosefirst.forms import opposite_form, point_or_weights
from whosefirst.news import ask_road
from whosefirst.ratios import Ratio
from whosefirst.rider_forms import FORM_SIZE, form_of_row, form_of_side, untold_names
from whosefirst.rider_rows import is_rider_row, names_of, rider_worth, seen_names_of
from whosefirst.riders import Rider, ask_rider
from whosefirst.rows import is_row
from whosefirst.sayings import ask_saying
from whosefirst.settling import Look, are_open, joined_look, row_to_cut, settled_look, settled_parts
from whosefirst.words import Never, paper_of_look

MOST_ROWS = 4
MOST_NAMES = 4
MOST_GIVEN = 24


class Way:
    """A way down a tree: the forms and kinds of what is told on it, from the top, the sides and the signs told."""

    def __init__(self, forms, kinds, sides, cuts):
        self.forms = forms
        self.kinds = kinds
        self.sides = sides
        self.cuts = cuts

    def with_side(self, book, name, side):
        """The way, and below it the side of a happening told."""
        forms = [*self.forms, form_of_side(book, name, side)]
        return Way(forms, [*self.kinds, ">="], {**self.sides, name: side}, self.cuts)

    def with_cut(self, number, sign, form):
        """The way, and below it a row cut, its worth being of this sign; the form is that of the worth."""
        forms = [*self.forms, opposite_form(form) if sign < 0 else form]
        return Way(forms, [*self.kinds, ">" if sign != 0 else "="], self.sides, {**self.cuts, number: sign})


class RiderSearch:
    """The search for a word goes down by sides and cuts."""

    def __init__(self, book, saying, given):
        self.book = book
        self.saying = saying
        self.given = given

    def look_down(self, way):
        """The Look at the end of a way; it ends as soon as both are found."""
        rider, weights = rider_or_weights(self.book, self.given, way)
        if rider is None:
            return Look(("nobody", weights), None, None)
        untold = [name for row in self.given for name in untold_names(row, way.sides)]
        if untold:
            return self.look_by_side(way, untold[0])
        settled = settled_parts(self.saying, way.cuts)
        if settled[-1] is not None:
            return settled_look(settled[-1], rider)
        number = row_to_cut(self.saying, settled)
        untold = untold_names(self.saying.rows[number], way.sides)
        return self.look_by_side(way, untold[0]) if untold else self.look_by_cut(way, number)

    def look_by_side(self, way, name):
        """The Look at the end of a way if the side of a happening is told next."""
        looks = []
        for side in ("left", "right"):
            if not are_open(looks):
                looks.append(self.look_down(way.with_side(self.book, name, side)))
        return joined_look(("side", name), looks)

    def look_by_cut(self, way, number):
        """The Look at the end of a way if a row is cut next."""
        form = form_of_row(self.book, self.saying.rows[number], way.sides)
        looks = []
        for sign in (1, 0, -1):
            if not are_open(looks):
                looks.append(self.look_down(way.with_cut(number, sign, form)))
        return joined_look(("cut", number), looks)


def rider_or_weights(book, given, way):
    """A Rider who keeps the given rows, but unclear ones, on a way, and None; or None, and nobody's weights."""
    told = [form_of_row(book, row, way.sides) for row in given]
    clear = [number for number, form in enumerate(told) if form is not None]
    forms = [told[number] for number in clear]
    kinds = [given[number].kind for number in clear]
    # A rider's p is above 0; and the third number, of which p and q are so many times as great, is made so.
    ends = [[Ratio(1), Ratio(0), Ratio(0)], [Ratio(0), Ratio(0), Ratio(1)]]
    point, found = point_or_weights([*forms, *way.forms, *ends], [*kinds, *way.kinds, ">", ">"], FORM_SIZE)
    if point is not None:
        return Rider.of_line(point[0].over(point[2]), point[1].over(point[2])), None
    weights = [Ratio(0)] * len(given)
    for number, weight in zip(clear, found):
        weights[number] = weight
    return None, weights + found[len(clear):-2]


def rider_truth(book, saying, rider):
    """Whether a rider keeps a saying."""
    ask_book(book)
    ask_saying(saying, "saying")
    ask_rider(rider, "rider")
    ask_road(book)
    ask_rider_rows(saying.rows)
    ask_rider_names(book, saying.rows)
    signs = [rider_worth(book, rider, row).sign for row in saying.rows]
    return settled_parts(saying, dict(enumerate(signs)))[-1]


def rider_word(book, saying, given=()):
    """The Always, the Never or the Open of a saying, for all riders who keep the given rows."""
    ask_rider_word(book, saying, given)
    if len(saying.rows) > MOST_ROWS:
        raise TooMany("rows", MOST_ROWS)
    seen = [name for row in [*saying.rows, *given] for name in seen_names_of(row)]
    if len(set(seen)) > MOST_NAMES:
        raise TooMany("names", MOST_NAMES)
    if len(given) > MOST_GIVEN:
        raise TooMany("given", MOST_GIVEN)
    look = RiderSearch(book, saying, given).look_down(Way([], [], {}, {}))
    if look.keeper is None and look.breaker is None:
        # The sides that make the given rows clear come first: so no row is cut on a way that nobody goes.
        raise Impossible(Never(look.tree))
    return paper_of_look(look)


def ask_rider_word(book, saying, given):
    """The parameters must be a book of a road, a saying about riders and given rows of riders, of its happenings."""
    ask_book(book)
    ask_saying(saying, "saying")
    if not is_listed(given) or not all([is_row(row) for row in given]):
        raise BadRow("given")
    ask_road(book)
    ask_rider_rows([*saying.rows, *given])
    ask_rider_names(book, [*saying.rows, *given])


def ask_rider_rows(rows):
    """All rows must be rows of riders."""
    if not all([is_rider_row(row) for row in rows]):
        raise Unlike("rows")


def ask_rider_names(book, rows):
    """All names of rows of riders must be in the book."""
    ask_all_known(book, [name for row in rows for name in names_of(row)])
