"""Records: what a reader takes from called orders, and the fewest that tell a book."""

from whosefirst.books import ask_book
from whosefirst.checks import is_listed
from whosefirst.errors import BadOrder
from whosefirst.grouping import Sharing, fewest_sets, greatest_first
from whosefirst.levels import ask_few, paces_in_parts
from whosefirst.lots import are_lots, ask_once, ask_same_names, lot_numbers
from whosefirst.paces import Pace, worth_of
from whosefirst.papers import Paper
from whosefirst.rows import Row
from whosefirst.spans import Span
from whosefirst.telling import apart_pairs

MOST_HAPPENINGS = (8, 4, 4)


class Records(Paper):
    """Paces whose records tell a book, and a right tree for one group fewer."""

    def __init__(self, paces, tree):
        super().__init__("records", paces, tree)
        self.paces = self.parts[0]
        self.tree = self.parts[1]


def reach_read(orders):
    """The pairs of which a reader takes from records that the first reaches the second, ascending."""
    if not is_listed(orders) or len(orders) == 0 or not all([are_lots(order) for order in orders]):
        raise BadOrder("orders")
    for order in orders:
        ask_once(order)
    ask_same_names(orders)
    lots = [lot_numbers(order) for order in orders]
    names = sorted(list(lots[0]))
    pairs = [(one, other) for one in names for other in names]
    return tuple([(one, other) for one, other in pairs if all([lot[one] < lot[other] for lot in lots])])


def fewest_records(book):
    """The Records with the fewest paces whose records tell the book."""
    ask_book(book)
    ask_few(book, MOST_HAPPENINGS)
    demands = demands_of(book)
    if not demands:
        return Records([] if len(book) == 1 else [Pace.rest(book.axes)], None)
    paces = [pace for _, found in paces_in_parts(book) for pace in found]
    steps = [book.step_of(demand.span) for demand in demands]
    sets = [demands_kept(pace, steps) for pace in paces]
    greatest = greatest_first(sets)
    paces, sets = [paces[number] for number in greatest], [sets[number] for number in greatest]
    fewest = fewest_sets(sets, list(range(len(demands))))
    if len(fewest) == 1:
        return Records([paces[fewest[0]]], None)
    sharing = Sharing(steps, book.axes, sets, len(fewest) - 1)
    return Records([paces[number] for number in fewest], sharing.tree_below([]))


def demands_of(book):
    """The demands of a book: for each pair that is apart that the one is called no later, and that the other is not."""
    demands = []
    for one, other in apart_pairs(book):
        demands.append(Row(Span.between(one, other), ">="))
        demands.append(Row(Span.between(other, one), ">="))
    return demands


def demands_kept(pace, steps):
    """The numbers of the demands that a pace keeps, as a dict of True, by the steps of their spans."""
    return {number: True for number, step in enumerate(steps) if worth_of(step, pace).sign >= 0}
