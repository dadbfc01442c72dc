"""Flats: which pairs some traveller calls level; their sign numbers count the orders without a level pair."""

from whosefirst.books import ask_book
from whosefirst.levels import ask_few, paces_in_parts
from whosefirst.papers import Paper
from whosefirst.telling import apart_pairs

MOST_HAPPENINGS = (8, 5, 4)


class Flat(Paper):
    """The pairs of a flat, its sign number, and a pace that calls just these pairs level."""

    def __init__(self, pairs, number, pace):
        super().__init__("flat", pairs, number, pace)
        self.pairs = self.parts[0]
        self.number = self.parts[1]
        self.pace = self.parts[2]


def flats_of(book):
    """The Flats of all flats, ascending by their pairs."""
    ask_book(book)
    ask_few(book, MOST_HAPPENINGS)
    pairs = apart_pairs(book)
    paces = {tuple([pairs[number] for number in numbers]): found[0] for numbers, found in paces_in_parts(book)}
    signs = sign_numbers(list(paces))
    return tuple([Flat(flat, signs[flat], paces[flat]) for flat in sorted(list(paces))])


def orders_count(book):
    """How many called orders have no level pair."""
    return sum([abs(flat.number) for flat in flats_of(book)])


def sign_numbers(flats):
    """The sign number of each of all flats of a book, tuples of pairs."""
    signs = {}
    # All flats with more paces have fewer pairs, so have their numbers by then.
    for flat in sorted(flats, key=len):
        more_paces = [signs[other] for other in signs if all([pair in flat for pair in other])]
        signs[flat] = -sum(more_paces) if more_paces else 1
    return signs
