"""Tours: travellers that go by parts, and what their clocks tell."""

from whosefirst.asks import ask_equal_axes
from whosefirst.checks import is_listed
from whosefirst.errors import BadNumber, BadStep, BadText, BadTour, TooMany
from whosefirst.news import spot_of_lights
from whosefirst.ratios import Ratio, are_ratios, greatest_of, is_ratio, least_of, summed, take_ratio
from whosefirst.steps import Step
from whosefirst.texts import Words

MOST_PARTS = 12


class Tour:
    """Parts, pairs of a ratio of beats and beats, one behind the other from the begin on."""

    def __init__(self, parts):
        if not are_parts(parts):
            raise BadTour("parts")
        if len(parts) > MOST_PARTS:
            raise TooMany("parts", MOST_PARTS)
        self.parts = tuple([(Ratio.of(ratio), Ratio.of(beats)) for ratio, beats in parts])
        self.age = summed([beats for _, beats in self.parts])
        self.spots = spots_along(self.parts)
        self.step = self.spots[-1]

    @staticmethod
    def read(text):
        """The Tour with this text."""
        words = Words(text)
        parts = [(take_above_nought(words), take_above_nought(words))]
        while not words.is_done():
            if len(parts) == MOST_PARTS:
                raise BadText(0, words.at)
            words.take_of((",",))
            parts.append((take_above_nought(words), take_above_nought(words)))
        return Tour(parts)

    def joined(self, other):
        """The Tour with the parts of another one behind."""
        if not isinstance(other, Tour):
            raise BadTour("other")
        return Tour([*self.parts, *other.parts])

    def __eq__(self, other):
        return isinstance(other, Tour) and self.parts == other.parts

    def __str__(self):
        return " , ".join([f"{ratio} {beats}" for ratio, beats in self.parts])


def straight_square(tour):
    """The square of the step from the begin to the end of a tour."""
    ask_tour(tour)
    return tour.step.square


def spot_at(tour, age):
    """The step from the begin to where the clock of a tour tells an age."""
    ask_tour(tour)
    if not is_ratio(age) or Ratio.of(age).sign < 0 or tour.age.is_below(age):
        raise BadNumber("age")
    left = Ratio.of(age)
    at = 0
    while tour.parts[at][1].is_below(left):
        left = left - tour.parts[at][1]
        at = at + 1
    return tour.spots[at] + step_of_beats(tour.parts[at][0], left)


def age_of_news(tour, step):
    """The least age at which the news of the time and place to which a step goes is there, None if it does not come."""
    ask_tour(tour)
    if not isinstance(step, Step):
        raise BadStep("step")
    ask_equal_axes(step, tour.step)
    ages = [age_past(tour, step, -1), age_past(tour, step, 1)]
    return None if None in ages else greatest_of(ages)


def age_past(tour, step, side):
    """The least age at which a light of where a step goes to is passed: the left one (1), or the right one (-1)."""
    due = light_of(step, side)
    if due.sign <= 0:
        return Ratio(0)
    age = Ratio(0)
    for (_, beats), begin, end in zip(tour.parts, tour.spots, tour.spots[1:]):
        before, behind = light_of(begin, side), light_of(end, side)
        if not behind.is_below(due):
            return age + beats * (due - before).over(behind - before)
        age = age + beats
    return None


def light_of(step, side):
    """The left light (1) of where a step of a road goes to from the begin, or the right one (-1)."""
    return step.time + step.place[0] * side


def step_of_beats(ratio, beats):
    """The step of a traveller of a ratio of beats in so many of its beats."""
    return spot_of_lights(beats.over(ratio), beats * ratio)


def spots_along(parts):
    """The steps from the begin to where each part of a tour begins, and to its end, a tuple."""
    spots = [Step.nothing(1)]
    for ratio, beats in parts:
        spots.append(spots[-1] + step_of_beats(ratio, beats))
    return tuple(spots)


def are_parts(parts):
    """Whether any value is a list of one or more pairs of ratios above 0."""
    if not is_listed(parts) or len(parts) == 0:
        return False
    return all([are_ratios(part) and len(part) == 2 and least_of(part).sign > 0 for part in parts])


def take_above_nought(words):
    """The next word of a text as a Ratio above 0."""
    ratio = take_ratio(words)
    if ratio.sign <= 0:
        raise BadText(0, words.at - 1)
    return ratio


def ask_tour(value):
    """The parameter tour must be a Tour."""
    if not isinstance(value, Tour):
        raise BadTour("tour")
