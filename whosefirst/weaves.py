"""Weaves: how lights of a book on a road are passed, one behind another or two at one moment."""

from whosefirst.books import ask_book
from whosefirst.errors import BadText, BadWeave, Unlike
from whosefirst.lots import order_by
from whosefirst.news import ask_road, left_of, right_of
from whosefirst.ratios import Ratio, least_of
from whosefirst.texts import Words

MOVES = ("u", "w", "b")
MOST_MOVES = 16


class Weave:
    """1 to 16 moves: u passes the next right light, w the next left light, b both."""

    def __init__(self, moves):
        if not isinstance(moves, str) or not 1 <= len(moves) <= MOST_MOVES:
            raise BadWeave("moves")
        if not all([move in MOVES for move in moves]):
            raise BadWeave("moves")
        self.moves = moves

    @staticmethod
    def read(text):
        """The Weave with this text."""
        words = Words(text)
        moves = [words.take_of(MOVES)]
        while not words.is_done():
            if len(moves) == MOST_MOVES:
                raise BadText(0, words.at)
            moves.append(words.take_of(MOVES))
        return Weave("".join(moves))

    def __eq__(self, other):
        return isinstance(other, Weave) and self.moves == other.moves

    def __str__(self):
        return " ".join(self.moves)


def lights_passed(book):
    """The unlike right lights of a book, ascending, and its unlike left lights."""
    ask_book(book)
    ask_road(book)
    return unlike_lights(book)


def fits_weave(book, weave):
    """Whether a weave fits a book: it passes just as many lights of either side as there are."""
    ask_book(book)
    ask_weave(weave)
    ask_road(book)
    return does_fit(book, weave)


def woven_order(book, weave):
    """The seen order of each eye with a weave."""
    ask_fitting(book, weave)
    return order_woven(book, weave)


def unlike_lights(book):
    """The unlike right lights of a book of a road, ascending, and its unlike left lights."""
    return ascending([right_of(book, name) for name in book]), ascending([left_of(book, name) for name in book])


def light_numbers(book):
    """For each name of a book of a road the numbers of its right and its left light among the unlike ones."""
    rights, lefts = unlike_lights(book)
    return {name: (rights.index(right_of(book, name)), lefts.index(left_of(book, name))) for name in book}


def ascending(lights):
    """Some Ratios, each once, ascending, a tuple."""
    found = []
    left = lights
    while left:
        found.append(least_of(left))
        left = [light for light in left if light != found[-1]]
    return tuple(found)


def does_fit(book, weave):
    """Whether a weave fits a book of a road."""
    rights, lefts = unlike_lights(book)
    both = weave.moves.count("b")
    return weave.moves.count("u") + both == len(rights) and weave.moves.count("w") + both == len(lefts)


def order_woven(book, weave):
    """The seen order of each eye with a weave that fits."""
    right_moves = [at for at, move in enumerate(weave.moves) if move != "w"]
    left_moves = [at for at, move in enumerate(weave.moves) if move != "u"]
    numbers = light_numbers(book)
    moments = {name: max(right_moves[right], left_moves[left]) for name, (right, left) in numbers.items()}
    return order_by({name: Ratio(moments[name]) for name in moments})


def ask_weave(value):
    """The parameter weave must be a Weave."""
    if not isinstance(value, Weave):
        raise BadWeave("weave")


def ask_fitting(book, weave):
    """The parameters must be a book of a road and a weave that fits it."""
    ask_book(book)
    ask_weave(weave)
    ask_road(book)
    if not does_fit(book, weave):
        raise Unlike("weave")
