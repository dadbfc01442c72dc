"""Books and paces carried; paces mirrored and turned."""

from whosefirst.asks import ask_axis, ask_two_axes, asked_above_nought, asked_ratio
from whosefirst.books import ask_book, changed_book
from whosefirst.paces import Pace, ask_pace
from whosefirst.places import mirrored_place, turned_place
from whosefirst.ratios import Ratio
from whosefirst.steps import Step


def carried_book(book, ratio, axis):
    """The book as the traveller of a ratio of beats along an axis has it."""
    ask_book(book)
    beats = asked_above_nought(ratio, "ratio")
    ask_axis(axis, book.axes, "axis")
    return changed_book(book, lambda spot: carried_step(spot, beats, axis))


def carried_pace(pace, ratio, axis):
    """The pace as the traveller of a ratio of beats along an axis has it."""
    ask_pace(pace, "pace")
    beats = asked_above_nought(ratio, "ratio")
    ask_axis(axis, pace.axes, "axis")
    step = carried_step(Step(1, pace.parts), beats, axis)
    return Pace([number.over(step.time) for number in step.place])


def carried_step(step, ratio, axis):
    """The step with its right light along the axis multiplied by a ratio, its left light parted by it."""
    right = (step.time - step.place[axis]) * ratio
    left = (step.time + step.place[axis]).over(ratio)
    half = Ratio(1, 2)
    along = (left - right) * half
    return Step((left + right) * half, [along if at == axis else number for at, number in enumerate(step.place)])


def mirrored_pace(pace, axis):
    """The pace with -1 times its part along the axis."""
    ask_pace(pace, "pace")
    ask_axis(axis, pace.axes, "axis")
    return Pace(mirrored_place(pace.parts, axis))


def turned_pace(pace, one, other, ratio):
    """The pace turned by a ratio, the axis one being that of x, other that of y."""
    ask_pace(pace, "pace")
    ask_two_axes(one, other, pace.axes)
    turn = asked_ratio(ratio, "ratio")
    return Pace(turned_place(pace.parts, one, other, turn))
