"""Passers: who passed on a road, known by accounts alone; how few they can have been."""

from whosefirst.books import ask_book
from whosefirst.callers import MOST_ROWS, ask_rows, ask_rows_known, find_caller
from whosefirst.checks import is_listed
from whosefirst.errors import BadReport, Impossible, TooMany
from whosefirst.news import ask_road
from whosefirst.paces import Pace
from whosefirst.papers import Paper
from whosefirst.ratios import Ratio
from whosefirst.rows import are_rows, is_kept
from whosefirst.sure import Stretch

MOST_ACCOUNTS = 8
MOST_ACCOUNT_ROWS = 8


class Passers(Paper):
    """Paces, the number of one for each account, and weights for each two accounts that share no passer."""

    def __init__(self, paces, who, apart):
        super().__init__("passers", paces, who, apart)
        self.paces = self.parts[0]
        self.who = self.parts[1]
        self.apart = self.parts[2]


class Piece:
    """All paces of a road from a low to a high one; both ends are pairs of a ratio and whether it is among them."""

    def __init__(self, low, high):
        self.low = low
        self.high = high

    def is_none(self):
        """Whether there are none."""
        if self.low[0] == self.high[0]:
            return not (self.low[1] and self.high[1])
        return self.high[0].is_below(self.low[0])

    def met_by(self, other):
        """The paces that are in this one and in another one."""
        return Piece(inner_end(self.low, other.low, 1), inner_end(self.high, other.high, -1))

    def ends_ahead_of(self, other):
        """Whether this one ends at a lesser pace than another one, or at the same one without it."""
        if self.high[0] == other.high[0]:
            return other.high[1] and not self.high[1]
        return self.high[0].is_below(other.high[0])


def stretch_of(book, rows):
    """The Stretch of the paces that keep rows, None if there are none."""
    ask_book(book)
    ask_rows(rows, "rows")
    ask_road(book)
    ask_rows_known(book, rows)
    if len(rows) > MOST_ROWS:
        raise TooMany("rows", MOST_ROWS)
    piece = piece_of_rows(book, rows)
    if piece.is_none():
        return None
    return Stretch(piece.low[0], piece.high[0], piece.low[1], piece.high[1])


def fewest_passers(book, accounts):
    """The Passers with the fewest paces that keep the rows of all accounts."""
    ask_accounts(book, accounts)
    if len(accounts) > MOST_ACCOUNTS:
        raise TooMany("accounts", MOST_ACCOUNTS)
    if not all([len(rows) <= MOST_ACCOUNT_ROWS for rows in accounts]):
        raise TooMany("rows", MOST_ACCOUNT_ROWS)
    pieces = [piece_of_rows(book, rows) for rows in accounts]
    for rows, piece in zip(accounts, pieces):
        if piece.is_none():
            raise Impossible(find_caller(book, rows))
    paces, who, firsts = shared_out(pieces)
    return Passers(paces, who, weights_apart(book, accounts, sorted(firsts)))


def shared_out(pieces):
    """Paces, the number of one for each piece, and the numbers of those pieces no two of which have paces in common."""
    paces, firsts = [], []
    who = {}
    while len(who) < len(pieces):
        left = [number for number in range(len(pieces)) if number not in who]
        first = first_to_end(pieces, left)
        common = pieces[first]
        for number in left:
            if not pieces[first].met_by(pieces[number]).is_none():
                # All that have paces in common with the one that ends first have some in common at its end.
                common = common.met_by(pieces[number])
                who[number] = len(paces)
        paces.append(Pace([(common.low[0] + common.high[0]) * Ratio(1, 2)]))
        firsts.append(first)
    return paces, [who[number] for number in range(len(pieces))], firsts


def first_to_end(pieces, numbers):
    """The first of some numbers whose piece ends first."""
    first = numbers[0]
    for number in numbers:
        if pieces[number].ends_ahead_of(pieces[first]):
            first = number
    return first


def weights_apart(book, accounts, numbers):
    """For each two of some ascending numbers a triple: these, and nobody's weights for the rows of both accounts."""
    pairs = [(one, other) for one in numbers for other in numbers if one < other]
    return [(one, other, find_caller(book, [*accounts[one], *accounts[other]]).weights) for one, other in pairs]


def inner_end(one, other, side):
    """Of two low ends (1) the greater one, of two high ones (-1) the lesser one."""
    order = (one[0] - other[0]).sign * side
    if order == 0:
        return one[0], one[1] and other[1]
    return one if order > 0 else other


def piece_of_rows(book, rows):
    """The Piece of the paces that keep rows."""
    piece = Piece((Ratio(-1), False), (Ratio(1), False))
    for row in rows:
        piece = piece.met_by(piece_of_row(book.step_of(row.span), row.kind))
    return piece


def piece_of_row(step, kind):
    """The Piece of all from light's pace to light's that keep a row of this kind, by the step of its span."""
    low, high = (Ratio(-1), True), (Ratio(1), True)
    if step.place[0].sign == 0:
        return Piece(low, high) if is_kept(kind, step.time.sign) else Piece(high, low)
    level = step.time.over(step.place[0])
    if kind == "=":
        return Piece((level, True), (level, True))
    # Whoever goes faster along the step calls it earlier.
    if step.place[0].sign > 0:
        return Piece(low, (level, kind == ">="))
    return Piece((level, kind == ">="), high)


def ask_accounts(book, accounts):
    """The parameters must be a book of a road and a list of lists of Rows of its happenings."""
    ask_book(book)
    if not is_listed(accounts) or not all([are_rows(rows) for rows in accounts]):
        raise BadReport("accounts")
    ask_road(book)
    ask_rows_known(book, [row for rows in accounts for row in rows])
