"""Whether papers about stories are right."""

from whosefirst.check_callers import are_numbers_of
from whosefirst.checks import is_listed
from whosefirst.forms import added_forms
from whosefirst.paces import worth_of
from whosefirst.ratios import Ratio, are_ratios
from whosefirst.rows import is_kept
from whosefirst.steps import Step
from whosefirst.stories import Held, Mixed, ask_story, form_of_report, told_reports
from whosefirst.sure import Against, Struck, Sure, Unsure, ask_sure_row, sets_in_order


def shows_held(story, value):
    """Whether any value is a Held with spots that keep a story, or a Mixed with weights that mix its reports."""
    ask_story(story)
    if type(value) is Held:
        return do_keep(story, value.spots, told_reports(story))
    return type(value) is Mixed and do_mix(story, value.weights, told_reports(story))


def shows_sure(story, pace, row, value):
    """Whether any value is a Sure, an Against or an Unsure that is right for a row asked of a traveller of a pace."""
    ask_sure_row(story, pace, row)
    told = told_reports(story)
    if type(value) is Sure:
        return do_mix_each(story, value.weights, [[*told, (pace, contrary)] for contrary in row.contraries()])
    if type(value) is Against:
        return do_mix(story, value.weights, [*told, (pace, row)])
    if type(value) is not Unsure or not do_keep(story, value.one, told) or not do_keep(story, value.other, told):
        return False
    asked = [(pace, row)]
    return do_keep(story, value.one, asked) and not do_keep(story, value.other, asked)


def shows_struck(story, value):
    """Whether any value is a Struck that is right."""
    ask_story(story)
    if type(value) is not Struck or not are_numbers_of(story.reports, value.numbers):
        return False
    told = told_reports(story)
    if not do_keep(story, value.spots, reports_left(told, value.numbers)):
        return False
    sets = sets_in_order(len(told))
    ahead = sets[:sets.index(value.numbers)]
    return do_mix_each(story, value.papers, [reports_left(told, numbers) for numbers in ahead])


def reports_left(told, numbers):
    """The reports without those that have these numbers."""
    return [report for at, report in enumerate(told) if at not in numbers]


def are_spots_of(story, spots):
    """Whether any value is spots for a story: pairs of a name and a Step, all names ascending."""
    if not is_listed(spots) or len(spots) != len(story.names):
        return False
    return all([is_spot_of(story, name, spot) for name, spot in zip(story.names, spots)])


def is_spot_of(story, name, spot):
    """Whether any value is a pair of just this name and a Step of the story's axes."""
    if not is_listed(spot) or len(spot) != 2 or not isinstance(spot[0], str) or spot[0] != name:
        return False
    return isinstance(spot[1], Step) and spot[1].axes == story.axes


def do_keep(story, spots, told):
    """Whether any value is spots for a story that keep pairs of a pace and a row."""
    if not are_spots_of(story, spots):
        return False
    steps = {name: step for name, step in spots}
    return all([is_kept(row.kind, spot_worth(steps, pace, row.span).sign) for pace, row in told])


def spot_worth(steps, pace, span):
    """The worth of a span at a pace, by the steps to its names."""
    worth = Ratio(0)
    for name, times in span.terms:
        worth = worth + worth_of(steps[name], pace) * times
    return worth


def do_mix(story, weights, told):
    """Whether any value is a list of weights that mix pairs of a pace and a row."""
    if not are_ratios(weights) or len(weights) != len(told):
        return False
    signs = [Ratio.of(weight).sign for weight in weights]
    if not all([sign >= 0 or row.kind == "=" for (_, row), sign in zip(told, signs)]):
        return False
    forms = [form_of_report(story.names, pace, row.span) for pace, row in told]
    if any(added_forms(forms, weights, len(story.names) * (story.axes + 1))):
        return False
    return any([sign > 0 and row.kind == ">" for (_, row), sign in zip(told, signs)])


def do_mix_each(story, lists, mixed):
    """Whether any value is a list of weights, for each list of pairs of a pace and a row some that mix it."""
    if not is_listed(lists) or len(lists) != len(mixed):
        return False
    return all([do_mix(story, weights, told) for weights, told in zip(lists, mixed)])
