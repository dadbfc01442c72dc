"""Places mirrored and turned: those of happenings, and paces, which are turned alike."""

from whosefirst.ratios import Ratio


def mirrored_place(place, axis):
    """The place with -1 times what it has along the axis."""
    return [-number if at == axis else number for at, number in enumerate(place)]


def turned_place(place, one, other, ratio):
    """The place turned by a ratio, the axis one being that of x, other that of y."""
    square = ratio * ratio
    whole = square + 1
    cosine, sine = (Ratio(1) - square).over(whole), (ratio * 2).over(whole)
    turned = list(place)
    turned[one] = cosine * place[one] - sine * place[other]
    turned[other] = sine * place[one] + cosine * place[other]
    return turned
