"""Ratios: exact fractions in lowest terms."""

from math import gcd, lcm

from whosefirst.checks import is_integer, is_listed
from whosefirst.errors import BadRatio, BadText
from whosefirst.texts import Words, are_digits, digits_of


class Ratio:
    """An exact fraction in lowest terms, its bottom above 0."""

    def __init__(self, top, bottom=1):
        # Ratios are made again and again, so what nearly all tops and bottoms are is looked at first.
        if type(top) is not int and not is_integer(top):
            raise BadRatio("top")
        if (type(bottom) is not int and not is_integer(bottom)) or bottom == 0:
            raise BadRatio("bottom")
        common = gcd(top, bottom) if bottom > 0 else -gcd(top, bottom)
        self.top = top // common
        self.bottom = bottom // common
        self.sign = 0 if self.top == 0 else 1 if self.top > 0 else -1

    @staticmethod
    def of(value):
        """The Ratio of a ratio: of an integer, or of a Ratio itself."""
        return as_ratio(value, "value")

    @staticmethod
    def read(text):
        """The Ratio with this text."""
        words = Words(text)
        ratio = take_ratio(words)
        words.finish()
        return ratio

    def over(self, other):
        """This ratio parted by another one."""
        below = as_ratio(other, "other")
        if below.sign == 0:
            raise BadRatio("other")
        return Ratio(self.top * below.bottom, self.bottom * below.top)

    def is_below(self, other):
        """Whether this ratio is less than another one."""
        above = as_ratio(other, "other")
        return self.top * above.bottom < above.top * self.bottom

    def __add__(self, other):
        more = as_ratio(other, "other")
        return Ratio(self.top * more.bottom + more.top * self.bottom, self.bottom * more.bottom)

    def __sub__(self, other):
        less = as_ratio(other, "other")
        return Ratio(self.top * less.bottom - less.top * self.bottom, self.bottom * less.bottom)

    def __mul__(self, other):
        times = as_ratio(other, "other")
        return Ratio(self.top * times.top, self.bottom * times.bottom)

    def __neg__(self):
        return Ratio(-self.top, self.bottom)

    def __abs__(self):
        return Ratio(abs(self.top), self.bottom)

    def __bool__(self):
        return bool(self.top)

    def __eq__(self, other):
        if isinstance(other, Ratio):
            return self.top == other.top and self.bottom == other.bottom
        return is_integer(other) and self.bottom == 1 and self.top == other

    def __str__(self):
        if self.bottom == 1:
            return f"{digits_of(self.top)}"
        return f"{digits_of(self.top)}/{digits_of(self.bottom)}"

    def __repr__(self):
        return str(self)


def sign_of(number):
    """1 for an integer above 0, 0, or -1."""
    if number == 0:
        return 0
    return 1 if number > 0 else -1


def is_ratio(value):
    """Whether any value is a Ratio or an integer."""
    return isinstance(value, Ratio) or is_integer(value)


def are_ratios(value):
    """Whether any value is a list or a tuple of Ratios and integers."""
    return is_listed(value) and all([is_ratio(number) for number in value])


def as_ratio(value, part):
    """The Ratio of a ratio; any other value is told as BadRatio with this part."""
    if isinstance(value, Ratio):
        return value
    if not is_integer(value):
        raise BadRatio(part)
    return Ratio(value)


def summed(ratios):
    """The sum of a list of ratios, 0 of none."""
    if not are_ratios(ratios):
        raise BadRatio("ratios")
    if len(ratios) < 2:
        return Ratio.of(ratios[0]) if len(ratios) == 1 else Ratio(0)
    # By halves, as one sum that grows term by term would carry a long bottom through all of them.
    half = len(ratios) // 2
    return summed(ratios[:half]) + summed(ratios[half:])


def greatest_of(ratios):
    """The greatest of one ratio or more."""
    if not are_ratios(ratios) or len(ratios) == 0:
        raise BadRatio("ratios")
    greatest = Ratio.of(ratios[0])
    for ratio in ratios:
        if greatest.is_below(ratio):
            greatest = Ratio.of(ratio)
    return greatest


def least_of(ratios):
    """The least of one ratio or more."""
    if not are_ratios(ratios):
        raise BadRatio("ratios")
    return -greatest_of([-Ratio.of(ratio) for ratio in ratios])


def over_one_bottom(ratios):
    """Some Ratios as whole numbers over one bottom: the list of these, and the bottom, above 0."""
    bottom = 1
    for ratio in ratios:
        bottom = lcm(bottom, ratio.bottom)
    return [ratio.top * (bottom // ratio.bottom) for ratio in ratios], bottom


def lowest(numbers, bottom):
    """Some whole numbers and what they are over, without a common divisor."""
    common = bottom
    for number in numbers:
        common = gcd(common, number)
    return [number // common for number in numbers], bottom // common


def whole_product(one, other):
    """The sum of the products of two rows of whole numbers, part by part."""
    return sum([part * factor for part, factor in zip(one, other)])


def ratio_of_word(word):
    """The Ratio whose text this word is, without too many digits above or below; None for any other word."""
    top, slash, bottom = word.partition("/")
    if not are_digits(top.removeprefix("-")) or (slash == "/" and not are_digits(bottom)):
        return None
    below = int(bottom) if slash == "/" else 1
    if below == 0:
        return None
    ratio = Ratio(int(top), below)
    return ratio if str(ratio) == word else None


def take_ratio(words):
    """The next word of a text as a Ratio."""
    ratio = None if words.is_done() else ratio_of_word(words.coming())
    if ratio is None:
        raise BadText(0, words.at)
    words.take()
    return ratio
