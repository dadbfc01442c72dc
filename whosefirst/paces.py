"""Paces: how travellers fly, slower than light."""

from whosefirst.asks import ask_axes, ask_axis, ask_equal_axes, asked_above_nought, is_axes
from whosefirst.errors import BadNumber, BadPace, BadText
from whosefirst.ratios import Ratio, are_ratios, is_ratio, over_one_bottom, summed, take_ratio, whole_product
from whosefirst.texts import Words


class Pace:
    """A ratio for each axis, the squares adding up to less than 1."""

    def __init__(self, parts):
        if not are_ratios(parts) or not is_axes(len(parts)):
            raise BadPace("parts")
        self.parts = tuple([Ratio.of(part) for part in parts])
        self.axes = len(self.parts)
        # The parts in whole numbers over one bottom: worths are told by these.
        self.numbers, self.bottom = over_one_bottom(self.parts)
        self.square = Ratio(whole_product(self.numbers, self.numbers), self.bottom * self.bottom)
        if not self.square.is_below(1):
            raise BadPace("parts")

    @staticmethod
    def rest(axes):
        """The pace of noughts."""
        ask_axes(axes)
        return Pace([0] * axes)

    @staticmethod
    def of_beats(ratio, axes, axis):
        """The pace of a ratio of beats along an axis."""
        beats = asked_above_nought(ratio, "ratio")
        ask_axes(axes)
        ask_axis(axis, axes, "axis")
        along = (beats * beats - 1).over(beats * beats + 1)
        return Pace([along if at == axis else 0 for at in range(axes)])

    @staticmethod
    def read(text):
        """The Pace with this text."""
        words = Words(text)
        pace = take_pace(words)
        words.finish()
        return pace

    def mixed(self, other, share):
        """The Pace that is a share of the way to another one."""
        ask_pace(other, "other")
        if not is_share(share):
            raise BadNumber("share")
        ask_equal_axes(self, other)
        return Pace([part + (end - part) * share for part, end in zip(self.parts, other.parts)])

    def __neg__(self):
        return Pace([-part for part in self.parts])

    def __eq__(self, other):
        return isinstance(other, Pace) and self.parts == other.parts

    def __str__(self):
        return " ".join([str(part) for part in self.parts])


def is_share(value):
    """Whether any value is a ratio from 0 to 1."""
    return is_ratio(value) and Ratio.of(value).sign >= 0 and not Ratio(1).is_below(value)


def take_pace(words):
    """The coming words of a text, as far as they can make one, as a Pace."""
    parts = [take_part(words, [])]
    while not words.is_done() and is_axes(len(parts) + 1):
        parts.append(take_part(words, parts))
    return Pace(parts)


def take_part(words, ahead):
    """The next word of a text as the part of a pace behind the parts ahead; slower than light with these."""
    part = take_ratio(words)
    if not summed([one * one for one in [*ahead, part]]).is_below(1):
        raise BadText(0, words.at - 1)
    return part


def ask_pace(value, part):
    """A parameter must be a Pace."""
    if not isinstance(value, Pace):
        raise BadPace(part)


def worth_of(step, pace):
    """The worth of a step for the traveller of a pace with its axes."""
    return Ratio(whole_worth(step.numbers, pace.numbers, pace.bottom), step.bottom * pace.bottom)


def whole_worth(row, numbers, bottom):
    """The worth of a step, told by whole numbers, at a pace of any square, times the bottom of this."""
    return row[0] * bottom - whole_product(row[1:], numbers)
