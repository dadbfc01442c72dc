"""The tests' own sums about stories, in Fractions: spots that keep, weights that mix, and which papers are right."""

from itertools import combinations

from own import are_weights, exact, holds, is_index, sign_of
from whosefirst.steps import Step
from whosefirst.stories import Held, Mixed
from whosefirst.sure import Against, Struck, Sure, Unsure


def told_of(story):
    """The reports of a story as pairs of a pace and a row."""
    return [(story.pace_of(traveller), row) for traveller, row in story.reports]


def without(told, numbers):
    return [report for at, report in enumerate(told) if at not in numbers]


def spot_worth(spots, pace, span):
    """The worth of a span at a pace by spots, pairs of a name and a Step."""
    steps = dict(spots)
    return sum(exact(times) * (exact(steps[name].time) - sum(exact(part) * exact(number) for part, number in zip(pace.parts, steps[name].place)))
               for name, times in span.terms)


def do_keep(story, spots, told):
    if type(spots) is not tuple or len(spots) != len(story.names):
        return False
    for name, spot in zip(story.names, spots):
        if type(spot) is not tuple or len(spot) != 2 or type(spot[0]) is not str or spot[0] != name or type(spot[1]) is not Step or spot[1].axes != story.axes:
            return False
    return all(holds(row.kind, sign_of(spot_worth(spots, pace, row.span))) for pace, row in told)


def do_mix(story, weights, told):
    if not are_weights(weights, len(told)):
        return False
    if any(exact(weight) < 0 and row.kind != "=" for weight, (_, row) in zip(weights, told)):
        return False
    for axis in [None, *range(story.axes)]:
        for name in story.names:
            if sum(exact(weight) * exact(row.span.number_of(name)) * (1 if axis is None else exact(pace.parts[axis])) for weight, (pace, row) in zip(weights, told)):
                return False
    return any(exact(weight) > 0 and row.kind == ">" for weight, (_, row) in zip(weights, told))


def is_held(story, value):
    if type(value) is Held:
        return do_keep(story, value.spots, told_of(story))
    return type(value) is Mixed and do_mix(story, value.weights, told_of(story))


def is_sure(story, pace, row, value):
    told = told_of(story)
    mixed = [[*told, (pace, contrary)] for contrary in row.contraries()]
    if type(value) is Sure:
        return type(value.weights) is tuple and len(value.weights) == len(mixed) and all(do_mix(story, *both) for both in zip(value.weights, mixed))
    if type(value) is Against:
        return do_mix(story, value.weights, [*told, (pace, row)])
    if type(value) is not Unsure or not do_keep(story, value.one, [*told, (pace, row)]):
        return False
    return any(do_keep(story, value.other, reports) for reports in mixed)


def is_struck(story, value):
    told = told_of(story)
    if type(value) is not Struck or type(value.numbers) is not tuple or not all(is_index(number, len(told)) for number in value.numbers):
        return False
    sets = [numbers for many in range(len(told) + 1) for numbers in combinations(range(len(told)), many)]
    if value.numbers not in sets or not do_keep(story, value.spots, without(told, value.numbers)):
        return False
    ahead = sets[:sets.index(value.numbers)]
    return type(value.papers) is tuple and len(value.papers) == len(ahead) and all(
        do_mix(story, weights, without(told, numbers)) for weights, numbers in zip(value.papers, ahead))
