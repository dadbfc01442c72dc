"""Words of sayings about calling: always, never, or open."""

from whosefirst.asks import ask_all_known, ask_equal_axes
from whosefirst.books import ask_book
from whosefirst.callers import MOST_ROWS, ask_rows, find_caller
from whosefirst.calling import pace_or_weights
from whosefirst.errors import Impossible, TooMany, Unlike
from whosefirst.paces import ask_pace, worth_of
from whosefirst.papers import Denial, Paper
from whosefirst.sayings import ask_saying, is_about_calling
from whosefirst.settling import Look, are_open, joined_look, row_to_cut, settled_look, settled_parts


class Always(Paper):
    """A tree that shows that all who are asked keep a saying."""

    def __init__(self, tree):
        super().__init__("always", tree)
        self.tree = self.parts[0]


class Open(Paper):
    """Two who are asked: one keeps a saying, the other does not."""

    def __init__(self, one, other):
        super().__init__("open", one, other)
        self.one = self.parts[0]
        self.other = self.parts[1]


class Never(Denial):
    """A tree that shows that nobody who is asked keeps a saying."""

    def __init__(self, tree):
        super().__init__("never", tree)
        self.tree = self.parts[0]


class CallerSearch:
    """The search for a word goes down by cuts: the steps and kinds of the given rows and the cuts lead it."""

    def __init__(self, book, saying):
        self.saying = saying
        self.steps = [book.step_of(row.span) for row in saying.rows]
        self.axes = book.axes

    def look(self, steps, kinds, cuts):
        """The Look at the place to which these lead; it ends as soon as both are found."""
        pace, weights = pace_or_weights(steps, kinds, self.axes)
        if pace is None:
            return Look(("nobody", weights), None, None)
        settled = settled_parts(self.saying, cuts)
        if settled[-1] is not None:
            return settled_look(settled[-1], pace)
        number = row_to_cut(self.saying, settled)
        step = self.steps[number]
        looks = []
        for sign, more, kind in ((1, step, ">"), (0, step, "="), (-1, -step, ">")):
            if not are_open(looks):
                looks.append(self.look([*steps, more], [*kinds, kind], {**cuts, number: sign}))
        return joined_look(("cut", number), looks)


def truth_at(book, saying, pace):
    """Whether the traveller of a pace keeps a saying."""
    ask_book(book)
    ask_saying(saying, "saying")
    ask_pace(pace, "pace")
    ask_calling(saying)
    ask_equal_axes(pace, book)
    ask_all_known(book, names_of_rows(saying.rows))
    signs = [worth_of(book.step_of(row.span), pace).sign for row in saying.rows]
    return settled_parts(saying, dict(enumerate(signs)))[-1]


def word_of(book, saying, given=()):
    """The Always, the Never or the Open of a saying, for all who keep the given rows."""
    ask_word(book, saying, given)
    if len(given) > MOST_ROWS:
        raise TooMany("given", MOST_ROWS)
    somebody = find_caller(book, given)
    if not somebody:
        raise Impossible(somebody)
    search = CallerSearch(book, saying)
    return paper_of_look(search.look([book.step_of(row.span) for row in given], [row.kind for row in given], {}))


def paper_of_look(look):
    """The Always, the Never or the Open that a Look from the top tells, if somebody is asked."""
    if look.keeper is None:
        return Never(look.tree)
    return Always(look.tree) if look.breaker is None else Open(look.keeper, look.breaker)


def ask_word(book, saying, given):
    """The parameters must be a book, a saying about calling and given rows, all of its happenings."""
    ask_book(book)
    ask_saying(saying, "saying")
    ask_rows(given, "given")
    ask_calling(saying)
    ask_all_known(book, names_of_rows([*saying.rows, *given]))


def ask_calling(saying):
    """A saying must be about calling."""
    if not is_about_calling(saying):
        raise Unlike("rows")


def names_of_rows(rows):
    """All names of some Rows."""
    return [name for row in rows for name in row.span.names]
