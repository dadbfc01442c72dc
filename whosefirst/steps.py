"""Steps: a time and a place to go by."""

from whosefirst.asks import ask_axes, ask_equal_axes, asked_ratio, is_axes
from whosefirst.errors import BadStep
from whosefirst.ratios import Ratio, are_ratios, is_ratio, over_one_bottom, take_ratio
from whosefirst.texts import Words


class Step:
    """A time and a place: a ratio, and one ratio for each axis."""

    def __init__(self, time, place):
        if not is_ratio(time):
            raise BadStep("time")
        if not are_ratios(place) or not is_axes(len(place)):
            raise BadStep("place")
        self.time = Ratio.of(time)
        self.place = tuple([Ratio.of(number) for number in place])
        self.axes = len(self.place)
        # The time and the place in whole numbers over one bottom: searches go by these.
        self.numbers, self.bottom = over_one_bottom([self.time, *self.place])
        self.square = square_of(self.numbers, self.bottom)
        self.kind = kind_of(self.time, self.square)

    @staticmethod
    def nothing(axes):
        """The step of noughts alone."""
        ask_axes(axes)
        return Step(0, [0] * axes)

    @staticmethod
    def read(text):
        """The Step with this text."""
        words = Words(text)
        time = take_ratio(words)
        place = [take_ratio(words)]
        while not words.is_done() and is_axes(len(place) + 1):
            place.append(take_ratio(words))
        words.finish()
        return Step(time, place)

    def __add__(self, other):
        ask_other(self, other)
        return Step(self.time + other.time, [one + more for one, more in zip(self.place, other.place)])

    def __sub__(self, other):
        ask_other(self, other)
        return Step(self.time - other.time, [one - less for one, less in zip(self.place, other.place)])

    def __mul__(self, other):
        times = asked_ratio(other, "ratio")
        return Step(self.time * times, [number * times for number in self.place])

    def __neg__(self):
        return Step(-self.time, [-number for number in self.place])

    def __eq__(self, other):
        return isinstance(other, Step) and self.time == other.time and self.place == other.place

    def __str__(self):
        return " ".join([str(number) for number in (self.time, *self.place)])


def ask_other(step, other):
    """What is added to a step, or taken from it, must be a step of as many axes."""
    if not isinstance(other, Step):
        raise BadStep("other")
    ask_equal_axes(step, other)


def square_of(numbers, bottom):
    """The square of a step by its whole numbers, so that it is made lowest terms just once."""
    first = numbers[0]
    return Ratio(first * first - sum([number * number for number in numbers[1:]]), bottom * bottom)


def kind_of(time, square):
    """The kind of a step; of time 0 and a square of 0 or more there is just nothing."""
    if square.sign < 0:
        return "apart"
    if time.sign == 0:
        return "nothing"
    return "forward" if time.sign > 0 else "backward"


def product_of(one, other):
    """The product of two steps."""
    if not isinstance(one, Step):
        raise BadStep("one")
    ask_other(one, other)
    product = one.time * other.time
    for number, factor in zip(one.place, other.place):
        product = product - number * factor
    return product
