"""Turns: which pairs two orders turn, what is between them, and what is called on the way from pace to pace."""

from whosefirst.asks import ask_equal_axes
from whosefirst.books import ask_book
from whosefirst.called import called_order
from whosefirst.lots import ask_order, ask_same_names, lot_numbers
from whosefirst.orders import Called
from whosefirst.paces import ask_pace, worth_of
from whosefirst.ratios import Ratio, over_one_bottom, sign_of
from whosefirst.spans import Span


def turned_pairs(one, other):
    """The pairs that two orders turn, ascending."""
    ask_order(one, "one")
    ask_order(other, "other")
    ask_same_names([one, other])
    ways, others = ways_of(one), ways_of(other)
    return tuple([pair for pair in ways if ways[pair] != others[pair]])


def is_between(one, other, third):
    """Whether the third order is between the two others."""
    ask_order(one, "one")
    ask_order(other, "other")
    ask_order(third, "third")
    ask_same_names([one, other, third])
    ways, others, thirds = ways_of(one), ways_of(other), ways_of(third)
    return all([ways[pair] * others[pair] == -1 or thirds[pair] in (ways[pair], others[pair]) for pair in ways])


def way_between(book, one, other):
    """The Calleds of the orders on the straight way from one pace to the other, in the order in which they come."""
    ask_book(book)
    ask_pace(one, "one")
    ask_pace(other, "other")
    ask_equal_axes(one, book)
    ask_equal_axes(other, book)
    paces = [one.mixed(other, share) for share in shares_to_look_at(book, one, other)]
    found = []
    for pace in paces:
        order = called_order(book, pace)
        if not found or found[-1].order != order:
            found.append(Called(order, pace))
    return tuple(found)


def ways_of(order):
    """For each pair of names of an order, the lesser name ahead: 1 if it is ahead, 0 if both are level, -1."""
    lots = lot_numbers(order)
    names = sorted(list(lots))
    return {(one, other): sign_of(lots[other] - lots[one]) for one in names for other in names if one < other}


def shares_to_look_at(book, one, other):
    """Shares of the way between two paces: its ends, all at which a pair is called level, and one between each two."""
    shares = [Ratio(0), Ratio(1)]
    for span in [Span.between(name, more) for name in book for more in book if name < more]:
        first, last = worth_of(book.step_of(span), one), worth_of(book.step_of(span), other)
        if first.sign * last.sign == -1:
            shares.append(first.over(first - last))
    numbers, bottom = over_one_bottom(shares)
    ascending = sorted(set(numbers))
    doubled = [2 * number for number in ascending]
    middles = [number + more for number, more in zip(ascending, ascending[1:])]
    return [Ratio(number, 2 * bottom) for number in sorted(doubled + middles)]
