"""What a story makes sure: of a row that is asked, of the paces that call a span late, and which reports to strike."""

from whosefirst.asks import ask_equal_axes
from whosefirst.books import ask_span
from whosefirst.errors import BadRow, Impossible, TooMany, Unlike
from whosefirst.paces import Pace, ask_pace
from whosefirst.papers import Denial, Paper
from whosefirst.ratios import Ratio
from whosefirst.rows import Row
from whosefirst.stories import Mixed, ask_row_names, ask_story, spots_or_weights, told_reports
from whosefirst.tableau import least_cost

MOST_STRUCK_FROM = 6


class Sure(Paper):
    """For each contrary of a row weights that mix the reports with this put in."""

    def __init__(self, weights):
        super().__init__("sure", weights)
        self.weights = self.parts[0]


class Against(Denial):
    """Weights that mix the reports with the row put in."""

    def __init__(self, weights):
        super().__init__("against", weights)
        self.weights = self.parts[0]


class Unsure(Paper):
    """Spots that keep the story with which the traveller keeps the row, and spots with which not."""

    def __init__(self, one, other):
        super().__init__("unsure", one, other)
        self.one = self.parts[0]
        self.other = self.parts[1]


class Struck(Paper):
    """The numbers of the reports struck, spots that keep the others, and weights for each set of numbers ahead."""

    def __init__(self, numbers, spots, papers):
        super().__init__("struck", numbers, spots, papers)
        self.numbers = self.parts[0]
        self.spots = self.parts[1]
        self.papers = self.parts[2]


class Stretch(Paper):
    """All paces of a road from a low to a high one, and whether these are among them."""

    def __init__(self, low, high, is_low_in, is_high_in):
        super().__init__("stretch", low, high, is_low_in, is_high_in)
        self.low = self.parts[0]
        self.high = self.parts[1]
        self.is_low_in = self.parts[2]
        self.is_high_in = self.parts[3]


def sure_row(story, pace, row):
    """The Sure, the Against or the Unsure of a row that is asked of a traveller of a pace."""
    ask_sure_row(story, pace, row)
    told = held_reports(story)
    spots, weights = spots_or_weights(story, [*told, (pace, row)])
    if spots is None:
        return Against(weights)
    against = [spots_or_weights(story, [*told, (pace, contrary)]) for contrary in row.contraries()]
    others = [other for other, _ in against if other is not None]
    return Unsure(spots, others[0]) if others else Sure([mixing for _, mixing in against])


def sure_paces(story, span):
    """The Stretch of the paces at which a span is late for sure, None if there are none."""
    ask_story(story)
    ask_span(span, "span")
    if story.axes != 1:
        raise Unlike("road")
    ask_row_names(story.names, [Row(span, ">")])
    told = held_reports(story)
    ends = None if span.is_nothing else ends_of_paces(story, told, span)
    if ends is None or ends[1].is_below(ends[0]):
        return None
    low, high = ends
    # Of paces that are not all on the ends those between are all sure, or none.
    if not is_late_for_sure(story, told, span, (low + high) * Ratio(1, 2)):
        return None
    is_low_in = is_late_for_sure(story, told, span, low)
    return Stretch(low, high, is_low_in, is_late_for_sure(story, told, span, high))


def fewest_struck(story):
    """The Struck with the first set of reports without which a story holds."""
    ask_story(story)
    if len(story.reports) > MOST_STRUCK_FROM:
        raise TooMany("reports", MOST_STRUCK_FROM)
    told = told_reports(story)
    papers = []
    numbers = ()
    spots, weights = spots_or_weights(story, told)
    sets = sets_in_order(len(told))
    while spots is None:
        papers.append(weights)
        numbers = sets[len(papers)]
        left = [report for at, report in enumerate(told) if at not in numbers]
        spots, weights = spots_or_weights(story, left)
    return Struck(numbers, spots, papers)


def held_reports(story):
    """The reports of a story, which must hold, as pairs of a pace and a row."""
    told = told_reports(story)
    spots, weights = spots_or_weights(story, told)
    if spots is None:
        raise Impossible(Mixed(weights))
    return told


def ask_sure_row(story, pace, row):
    """The parameters must be a story, a pace of its axes and a Row about its names."""
    ask_story(story)
    ask_pace(pace, "pace")
    if not isinstance(row, Row):
        raise BadRow("row")
    ask_equal_axes(pace, story)
    ask_row_names(story.names, [row])


def is_late_for_sure(story, told, span, part):
    """Whether a pace of a road is slower than light, and the row `>` of a span is sure at it."""
    if not abs(part).is_below(1):
        return False
    spots, _ = spots_or_weights(story, [*told, (Pace([part]), Row(-span, ">="))])
    return spots is None


def ends_of_paces(story, told, span):
    """The least and the greatest pace, light's at most, at which reports with weights make a span, None for none.

    The reports' spans, each times its weight, must add up to the span; and each times its
    weight and its pace, to the pace times the span. So the pace is told by one name.
    """
    first = [name for name in story.names[1:] if span.number_of(name).sign != 0][0]
    whole = span.number_of(first)
    columns, costs = [], []
    for pace, row in told:
        cost = pace.parts[0] * row.span.number_of(first).over(whole)
        column = column_of(story.names[1:], pace.parts[0], row.span, span, cost)
        columns.append(column)
        costs.append(cost)
        if row.kind == "=":
            columns.append([-number for number in column])
            costs.append(-cost)
    aim = [number for name in story.names[1:] for number in (span.number_of(name), Ratio(0))]
    is_some, low = least_cost(columns, aim, costs)
    if not is_some:
        return None
    _, turned = least_cost(columns, aim, [-cost for cost in costs])
    low = Ratio(-1) if low is None or low.is_below(-1) else low
    return low, Ratio(1) if turned is None or turned.is_below(-1) else -turned


def column_of(names, part, reported, span, cost):
    """What a report with the weight 1 adds for each name: to the span, and to the pace times the span less that due."""
    column = []
    for name in names:
        times = reported.number_of(name)
        column.append(times)
        column.append(part * times - cost * span.number_of(name))
    return column


def sets_in_order(many):
    """All ascending tuples of so many numbers: those with fewer first, those with equally many in their order."""
    found = []
    lists = [()]
    while lists:
        found.extend(lists)
        lists = [(*numbers, more) for numbers in lists for more in range(max(numbers, default=-1) + 1, many)]
    return found
