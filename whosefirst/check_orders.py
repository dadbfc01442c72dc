"""Whether papers about flats, called orders and records are right."""

from whosefirst.books import ask_book
from whosefirst.called import called_order, called_sign
from whosefirst.callers import keeps_rows, order_rows
from whosefirst.check_callers import are_nobodys, shows_caller
from whosefirst.checks import are_names, is_integer, is_listed, is_within
from whosefirst.flats import Flat
from whosefirst.lots import are_lots, ask_book_order
from whosefirst.orders import Called
from whosefirst.paces import Pace
from whosefirst.records import Records, demands_of
from whosefirst.spans import Span
from whosefirst.telling import apart_pairs


def shows_flat(book, value):
    """Whether any value is a Flat of a pace that calls just its pairs level."""
    ask_book(book)
    if type(value) is not Flat or not is_integer(value.number) or not is_pace_for(book, value.pace):
        return False
    if not is_listed(value.pairs) or not all([are_names(pair) and len(pair) == 2 for pair in value.pairs]):
        return False
    pairs = apart_pairs(book)
    level = [pair for pair in pairs if called_sign(book, value.pace, Span.between(pair[0], pair[1])) == 0]
    return value.pairs == tuple(level)


def shows_called(book, value):
    """Whether any value is a Called of a pace and of the order in which this calls the book."""
    ask_book(book)
    if type(value) is not Called or not is_pace_for(book, value.pace) or not are_lots(value.order):
        return False
    return value.order == called_order(book, value.pace)


def shows_order(book, order, value):
    """Whether any value is a Somebody or a Nobody that is right for the rows of an order."""
    ask_book(book)
    ask_book_order(book, order, "order")
    return shows_caller(book, order_rows(order), value)


def shows_records(book, value):
    """Whether any value is a Records whose paces tell the book, and whose tree shows that fewer do not."""
    ask_book(book)
    if type(value) is not Records or not is_listed(value.paces):
        return False
    if not all([is_pace_for(book, pace) for pace in value.paces]):
        return False
    if (len(value.paces) == 0) != (len(book) == 1):
        return False
    demands = demands_of(book)
    for demand in demands:
        if not any([keeps_rows(book, pace, [demand]) for pace in value.paces]):
            return False
    if len(value.paces) < 2:
        return value.tree is None
    return is_right_tree(book, demands, value.tree, [], len(value.paces) - 1)


def is_right_tree(book, demands, tree, begun, groups):
    """Whether any value is a right tree for so many groups, below groups begun, lists of numbers of demands."""
    if not is_listed(tree) or len(tree) != 3 or not isinstance(tree[0], str):
        return False
    _, number, below = tree
    if tree[0] == "nobody":
        if not is_within(number, 0, len(begun) - 1):
            return False
        return are_nobodys(book, [demands[member] for member in begun[number]], below)
    put = [member for group in begun for member in group]
    if tree[0] != "put" or not is_within(number, 0, len(demands) - 1) or number in put:
        return False
    if not is_listed(below) or len(below) != min(len(begun) + 1, groups):
        return False
    for at, branch in enumerate(below):
        grown = [*begun, [number]] if at == len(begun) else [*begun[:at], [*begun[at], number], *begun[at + 1:]]
        if not is_right_tree(book, demands, branch, grown, groups):
            return False
    return True


def is_pace_for(book, value):
    """Whether any value is a Pace of the book's axes."""
    return isinstance(value, Pace) and value.axes == book.axes
