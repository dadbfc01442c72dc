"""Rows and sayings about what is seen ahead of what, and their words over all eyes."""

from whosefirst.asks import ask_all_known
from whosefirst.books import ask_book
from whosefirst.checks import is_name
from whosefirst.errors import BadRow, BadSaying, BadText, Impossible, NoHappening, Unlike
from whosefirst.lots import ask_book_order, ask_order, lot_numbers
from whosefirst.news import ask_road
from whosefirst.ratios import sign_of
from whosefirst.ready_sayings import ask_name, asked_others
from whosefirst.rows import KINDS, AnyRow, is_kind
from whosefirst.sayings import all_of, ask_saying, of_row
from whosefirst.seen import Unseen
from whosefirst.settling import Look, are_open, joined_look, row_to_cut, settled_look, settled_parts
from whosefirst.states import keeps_cut, last_state, moves_by_lots, way_or_states
from whosefirst.texts import Words
from whosefirst.weaves import Weave
from whosefirst.words import paper_of_look


class SeenRow(AnyRow):
    """Two happenings and a kind: other is seen behind one, not ahead of it, or with it."""

    def __init__(self, one, other, kind):
        if not is_name(one):
            raise BadRow("one")
        if not is_name(other) or one == other:
            raise BadRow("other")
        if not is_kind(kind):
            raise BadRow("kind")
        self.one = one
        self.other = other
        self.kind = kind

    @staticmethod
    def read(text):
        """The SeenRow with this text."""
        words = Words(text)
        words.take_of(("seenrow",))
        kind = words.take_of(KINDS)
        one = words.take_name("")
        other = words.take_name("")
        if one == other:
            raise BadText(0, words.at - 1)
        words.finish()
        return SeenRow(one, other, kind)

    def __eq__(self, other):
        if not isinstance(other, SeenRow):
            return False
        return self.one == other.one and self.other == other.other and self.kind == other.kind

    def __str__(self):
        return f"seenrow {self.kind} {self.one} {self.other}"


class EyeSearch:
    """The search for a word goes down by cuts: the moves that keep the begun lots and all cuts lead it."""

    def __init__(self, book, saying):
        self.saying = saying
        self.last = last_state(book)

    def look(self, moves, cuts):
        """The Look at the place to which these lead; it ends as soon as both are found."""
        letters, states = way_or_states(moves, self.last)
        if letters is None:
            return Look(("nobody", states), None, None)
        settled = settled_parts(self.saying, cuts)
        if settled[-1] is not None:
            return settled_look(settled[-1], Weave(letters))
        number = row_to_cut(self.saying, settled)
        looks = []
        for sign in (1, 0, -1):
            if not are_open(looks):
                kept = moves_by_cut(moves, self.saying.rows[number], sign)
                looks.append(self.look(kept, {**cuts, number: sign}))
        return joined_look(("cut", number), looks)


def sees_ahead(one, other):
    """The saying that one is seen ahead of other."""
    ask_two_names(one, other)
    return of_row(SeenRow(one, other, ">"))


def sees_with(one, other):
    """The saying that one is seen with other."""
    ask_two_names(one, other)
    return of_row(SeenRow(one, other, "="))


def sees_first(name, names):
    """The saying that no other name of a list is seen ahead of a name."""
    sayings = [of_row(SeenRow(name, other, ">=")) for other in asked_others(name, names)]
    return all_of(*sayings)


def sees_last(name, names):
    """The saying that a name is seen ahead of no other name of a list."""
    sayings = [of_row(SeenRow(other, name, ">=")) for other in asked_others(name, names)]
    return all_of(*sayings)


def truth_in(order, saying):
    """Whether a saying holds in an order."""
    ask_order(order, "order")
    ask_saying(saying, "saying")
    ask_seen_rows(saying)
    lots = lot_numbers(order)
    for name in sorted(names_seen(saying)):
        if name not in lots:
            raise NoHappening(name)
    return holds_in(order, saying)


def eye_word(book, saying, begun=()):
    """The Always, the Never or the Open of a saying, for all eyes that see the begun lots first."""
    ask_eye_word(book, saying, begun)
    look = EyeSearch(book, saying).look(moves_by_lots(book, begun), {})
    if look.keeper is None and look.breaker is None:
        # Nothing is cut then, as that is asked first: so the tree is of shut states alone.
        raise Impossible(Unseen(look.tree[1]))
    return paper_of_look(look)


def holds_in(order, saying):
    """Whether a saying holds in an order that has its names."""
    lots = lot_numbers(order)
    signs = [sign_of(lots[row.other] - lots[row.one]) for row in saying.rows]
    return settled_parts(saying, dict(enumerate(signs)))[-1]


def moves_by_cut(moves, row, sign):
    """Those of some moves that let a row have a sign."""
    return [move for move in moves if keeps_cut(move, row.one, row.other, sign)]


def ask_two_names(one, other):
    """The parameters one and other must be unlike names."""
    ask_name(one, "one")
    ask_name(other, "other")
    if one == other:
        raise BadSaying("other")


def ask_eye_word(book, saying, begun):
    """The parameters must be a book of a road, a saying of seen rows and an order, all of its happenings."""
    ask_book(book)
    ask_saying(saying, "saying")
    ask_book_order(book, begun, "begun")
    ask_road(book)
    ask_seen_rows(saying)
    ask_all_known(book, names_seen(saying))


def ask_seen_rows(saying):
    """All rows of a saying must be SeenRows."""
    if not all([isinstance(row, SeenRow) for row in saying.rows]):
        raise Unlike("rows")


def names_seen(saying):
    """All names of the seen rows of a saying."""
    return [name for row in saying.rows for name in (row.one, row.other)]
