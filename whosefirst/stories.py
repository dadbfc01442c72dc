"""Stories: what travellers of known paces report of happenings that nobody knows when and where they were."""

from whosefirst.asks import is_axes
from whosefirst.checks import are_names, first_twice, is_listed, is_name, is_within
from whosefirst.errors import BadNumber, BadRow, BadStory, NoHappening, NoTraveller, TooMany, Twice, Unlike
from whosefirst.forms import Told, point_or_weights
from whosefirst.paces import Pace
from whosefirst.papers import Denial, Paper
from whosefirst.ratios import Ratio
from whosefirst.rows import Row
from whosefirst.steps import Step

MOST_NAMES = 4
MOST_TRAVELLERS = 6
MOST_REPORTS = 12


class Story:
    """Axes, names of happenings, travellers with their paces, and reports: pairs of a traveller and a row."""

    def __init__(self, axes, names, travellers, reports):
        if not is_axes(axes):
            raise BadStory("axes")
        ask_story_names(names)
        if not are_travellers(travellers):
            raise BadStory("travellers")
        if not are_reports(reports):
            raise BadStory("reports")
        if not all([travellers[name].axes == axes for name in travellers]):
            raise Unlike("axes")
        for traveller, _ in reports:
            ask_traveller(travellers, traveller)
        ask_row_names(names, [row for _, row in reports])
        ask_at_most("names", names, MOST_NAMES)
        ask_at_most("travellers", travellers, MOST_TRAVELLERS)
        ask_at_most("reports", reports, MOST_REPORTS)
        self.axes = axes
        self.names = tuple(sorted(list(names)))
        self.travellers = tuple(sorted(list(travellers)))
        self.reports = tuple([(traveller, row) for traveller, row in reports])
        self._paces = {name: travellers[name] for name in self.travellers}

    def pace_of(self, name):
        """The pace of a traveller."""
        ask_traveller(self._paces, name)
        return self._paces[name]

    def with_report(self, traveller, row):
        """The story with one more report behind."""
        ask_traveller(self._paces, traveller)
        if not isinstance(row, Row):
            raise BadRow("row")
        ask_row_names(self.names, [row])
        ask_at_most("reports", [*self.reports, row], MOST_REPORTS)
        return Story(self.axes, self.names, self._paces, [*self.reports, (traveller, row)])

    def without(self, number):
        """The story without the report with a number."""
        if not is_within(number, 0, len(self.reports) - 1):
            raise BadNumber("number")
        reports = [report for at, report in enumerate(self.reports) if at != number]
        return Story(self.axes, self.names, self._paces, reports)

    def __eq__(self, other):
        if not isinstance(other, Story) or self.axes != other.axes or self.names != other.names:
            return False
        return self._paces == other._paces and self.reports == other.reports


class Held(Paper):
    """Spots that keep a story: pairs of a name and the step to it from the begin."""

    def __init__(self, spots):
        super().__init__("held", spots)
        self.spots = self.parts[0]


class Mixed(Denial):
    """Weights that mix the reports of a story."""

    def __init__(self, weights):
        super().__init__("mixed", weights)
        self.weights = self.parts[0]


def held(story):
    """The Held with spots that keep a story, or the Mixed with weights that mix its reports."""
    ask_story(story)
    spots, weights = spots_or_weights(story, told_reports(story))
    return Mixed(weights) if spots is None else Held(spots)


def told_reports(story):
    """The reports of a story as pairs of a pace and a row."""
    return [(story.pace_of(traveller), row) for traveller, row in story.reports]


def spots_or_weights(story, told):
    """Spots for the names of a story that keep pairs of a pace and a row, and None; or None, and weights that mix them.

    The first name stands at the begin: as the numbers of a span add up to 0, spots may be
    moved together.
    """
    names = story.names[1:]
    forms = [Told(form_of_report(names, pace, row.span), row.kind) for pace, row in told]
    point, weights = point_or_weights(forms, len(names) * (story.axes + 1))
    if point is None:
        return None, weights
    numbers = [Ratio(number, point[1]) for number in point[0]]
    spots = [(story.names[0], Step.nothing(story.axes))]
    for at, name in enumerate(names):
        begin = at * (story.axes + 1)
        spots.append((name, Step(numbers[begin], numbers[begin + 1:begin + story.axes + 1])))
    return spots, None


def form_of_report(names, pace, span):
    """The worth of a span at a pace as a form of the times and places of some names, name by name."""
    form = []
    for name in names:
        times = span.number_of(name)
        form.append(times)
        form.extend([-(part * times) for part in pace.parts])
    return form


def ask_story(value):
    """The parameter story must be a Story."""
    if not isinstance(value, Story):
        raise BadStory("story")


def ask_story_names(names):
    """The parameter names must be a list of one or more unlike names."""
    if not are_names(names) or len(names) == 0:
        raise BadStory("names")
    twice = first_twice(names)
    if twice is not None:
        raise Twice(twice)


def are_travellers(value):
    """Whether any value is a dict from names to Paces."""
    return isinstance(value, dict) and all([is_name(name) and isinstance(value[name], Pace) for name in value])


def are_reports(value):
    """Whether any value is a list of pairs of whatever and a Row."""
    if not is_listed(value):
        return False
    return all([is_listed(report) and len(report) == 2 and isinstance(report[1], Row) for report in value])


def ask_traveller(travellers, value):
    """Any value must be the name of a traveller."""
    if not isinstance(value, str) or value not in travellers:
        raise NoTraveller(value)


def ask_row_names(names, rows):
    """All names of rows must be among these names: the first one, ascending, that is not is told."""
    for name in sorted([name for row in rows for name in row.span.names]):
        if name not in names:
            raise NoHappening(name)


def ask_at_most(what, values, most):
    """There must not be more of what is told than so many."""
    if len(values) > most:
        raise TooMany(what, most)
