"""Forms: rows of numbers, each times an unknown one; whether some unknown numbers keep them all."""

from whosefirst.nearest import Wall, nearest
from whosefirst.ratios import Ratio, over_one_bottom


def point_or_weights(forms, kinds, size):
    """So many unknown numbers that keep all forms, and None; or None, and weights that show that none do.

    What a form comes to must be above 0 (`>`), 0 or more (`>=`) or 0 (`=`). The weights
    are 0 or more but at `=`, some `>` has one above 0, and the forms, each times its
    weight, add up to noughts. Any numbers that keep the forms can be made greater at will:
    so 1 or more may be asked where more than 0 is told.
    """
    whole = [over_one_bottom(form) for form in forms]
    walls = [Wall(numbers, 1 if kind == ">" else 0, kind == "=") for (numbers, _), kind in zip(whole, kinds)]
    found = nearest(walls, size)
    if found.point is not None:
        return found.point, None
    return None, [weight * bottom for weight, (_, bottom) in zip(found.weights, whole)]


def opposite_form(form):
    """The form that comes to the opposite."""
    return [-number for number in form]


def added_forms(forms, weights, size):
    """The sum of some forms of so many numbers, each times its weight."""
    total = [Ratio(0)] * size
    for form, weight in zip(forms, weights):
        total = [one + number * weight for one, number in zip(total, form)]
    return total
