"""Orders: lots of names, told by a number for each name, or passed."""

from whosefirst.checks import are_names, first_twice, is_listed
from whosefirst.errors import BadOrder, Twice
from whosefirst.ratios import least_of


def order_by(numbers):
    """The order of the names of a dict from names to Ratios: least first, a lot has one number."""
    lots = []
    left = sorted(list(numbers))
    while left:
        least = least_of([numbers[name] for name in left])
        lots.append(tuple([name for name in left if numbers[name] == least]))
        left = [name for name in left if numbers[name] != least]
    return tuple(lots)


def ask_order(order, part):
    """A parameter must be an order: a list of lists of one or more names, each name once in all."""
    if not is_listed(order) or not all([are_names(lot) and len(lot) > 0 for lot in order]):
        raise BadOrder(part)
    twice = first_twice(names_in(order))
    if twice is not None:
        raise Twice(twice)


def names_in(order):
    """All names of an order, lot by lot, as they stand."""
    return [name for lot in order for name in lot]
