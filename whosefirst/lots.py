"""Orders: lots of names, told by a number for each name, or passed."""

from whosefirst.asks import ask_happening
from whosefirst.checks import are_names, first_twice, is_listed
from whosefirst.errors import BadOrder, Twice, Unlike
from whosefirst.ratios import over_one_bottom


def order_by(numbers):
    """The order of the names of a dict from names to Ratios: least first, a lot has one number."""
    names = sorted(list(numbers))
    whole, _ = over_one_bottom([numbers[name] for name in names])
    return tuple([tuple([name for name, one in zip(names, whole) if one == least]) for least in sorted(set(whole))])


def ask_order(order, part):
    """A parameter must be an order: a list of lists of one or more names, each name once in all."""
    ask_lots(order, part)
    ask_once(order)


def ask_book_order(book, order, part):
    """A parameter must be an order of names of the book, not always of all."""
    ask_lots(order, part)
    for name in names_in(order):
        ask_happening(book, name)
    ask_once(order)


def ask_lots(order, part):
    """A parameter must be a list of lists of one or more names."""
    if not are_lots(order):
        raise BadOrder(part)


def are_lots(value):
    """Whether any value is a list of lists of one or more names."""
    return is_listed(value) and all([are_names(lot) and len(lot) > 0 for lot in value])


def ask_once(order):
    """No name of an order may stand twice."""
    twice = first_twice(names_in(order))
    if twice is not None:
        raise Twice(twice)


def ask_same_names(orders):
    """All orders must have the same names."""
    for order in orders:
        if sorted(names_in(order)) != sorted(names_in(orders[0])):
            raise Unlike("names")


def lot_numbers(order):
    """For each name of an order the number of its lot."""
    return {name: number for number, lot in enumerate(order) for name in lot}


def names_in(order):
    """All names of an order, lot by lot, as they stand."""
    return [name for lot in order for name in lot]
