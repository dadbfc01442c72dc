"""Words of sayings about calling: always, never, or open."""

from whosefirst.asks import ask_all_known, ask_equal_axes
from whosefirst.books import ask_book
from whosefirst.callers import MOST_ROWS, ask_rows, find_caller
from whosefirst.calling import pace_or_weights
from whosefirst.errors import Impossible, TooMany, Unlike
from whosefirst.paces import ask_pace, worth_of
from whosefirst.papers import Denial, Paper
from whosefirst.sayings import ask_saying, is_about_calling
from whosefirst.settling import Look, are_open, joined_look, row_to_cut, settled_look, settled_parts


class Always(Paper):
    """A tree that shows that all who are asked keep a saying."""

    def __init__(self, tree):
        super().__init__("always", tree)
        self.tree = self.parts[0]


class Open(Paper):
    """Two who are asked: one keeps a saying, the other does not."""

    def __init__(self, one, other):
        super().__init__("open", one, other)
        self.one = self.parts[0]
        self.other = self.parts[1]


class Never(Denial):
    """A tree that shows that nobody who is asked keeps a saying."""

    def __init__(self, tree):
        super().__init__("never", tree)
        self.tree = self.parts[0]


class Way:
    """A way down a tree: the steps and kinds of the given rows and of the cuts on it, and the signs of these."""

    def __init__(self, steps, kinds, cuts):
        self.steps = steps
        self.kinds = kinds
        self.cuts = cuts

    def with_cut(self, number, sign, step):
        """The way, and below it a row cut, its span being called with this sign; the step is that of the span."""
        steps = [*self.steps, -step if sign < 0 else step]
        return Way(steps, [*self.kinds, ">" if sign != 0 else "="], {**self.cuts, number: sign})

    def answer(self):
        """A Pace that keeps all rows on the way, and None; or None, and nobody's weights."""
        return pace_or_weights(self.steps, self.kinds, self.steps[0].axes)


class CallerSearch:
    """The search for a word goes down by cuts."""

    def __init__(self, book, saying):
        self.saying = saying
        self.steps = [book.step_of(row.span) for row in saying.rows]

    def look(self, way, known):
        """The Look at the end of a way; it ends as soon as both are found.

        What is known is a pace that keeps all rows on the way, or None: where such a traveller
        goes, none is searched. Who is told at last is searched on the way found.
        """
        pace = known
        if pace is None:
            pace, weights = way.answer()
            if pace is None:
                return Look(("nobody", weights), None, None)
        settled = settled_parts(self.saying, way.cuts)
        if settled[-1] is not None:
            return settled_look(settled[-1], way)
        number = row_to_cut(self.saying, settled)
        step = self.steps[number]
        called = worth_of(step, pace).sign
        looks = []
        for sign in (1, 0, -1):
            if not are_open(looks):
                looks.append(self.look(way.with_cut(number, sign, step), pace if sign == called else None))
        return joined_look(("cut", number), looks)


def truth_at(book, saying, pace):
    """Whether the traveller of a pace keeps a saying."""
    ask_book(book)
    ask_saying(saying, "saying")
    ask_pace(pace, "pace")
    ask_calling(saying)
    ask_equal_axes(pace, book)
    ask_all_known(book, names_of_rows(saying.rows))
    signs = [worth_of(book.step_of(row.span), pace).sign for row in saying.rows]
    return settled_parts(saying, dict(enumerate(signs)))[-1]


def word_of(book, saying, given=()):
    """The Always, the Never or the Open of a saying, for all who keep the given rows."""
    ask_word(book, saying, given)
    if len(given) > MOST_ROWS:
        raise TooMany("given", MOST_ROWS)
    somebody = find_caller(book, given)
    if not somebody:
        raise Impossible(somebody)
    way = Way([book.step_of(row.span) for row in given], [row.kind for row in given], {})
    look = CallerSearch(book, saying).look(way, somebody.pace)
    if look.keeper is None or look.breaker is None:
        return paper_of_look(look)
    return Open(look.keeper.answer()[0], look.breaker.answer()[0])


def paper_of_look(look):
    """The Always, the Never or the Open that a Look from the top tells, if somebody is asked."""
    if look.keeper is None:
        return Never(look.tree)
    return Always(look.tree) if look.breaker is None else Open(look.keeper, look.breaker)


def ask_word(book, saying, given):
    """The parameters must be a book, a saying about calling and given rows, all of its happenings."""
    ask_book(book)
    ask_saying(saying, "saying")
    ask_rows(given, "given")
    ask_calling(saying)
    ask_all_known(book, names_of_rows([*saying.rows, *given]))


def ask_calling(saying):
    """A saying must be about calling."""
    if not is_about_calling(saying):
        raise Unlike("rows")


def names_of_rows(rows):
    """All names of some Rows."""
    return [name for row in rows for name in row.span.names]
