"""Forms: rows of numbers, each times an unknown one; whether some unknown numbers keep them all."""

from whosefirst.nearest import Wall, nearest
from whosefirst.ratios import Ratio, over_one_bottom, sign_of, whole_product
from whosefirst.rows import is_kept


class Told:
    """A form, in whole numbers over one bottom, too, that must come to more than 0 (`>`), 0 or more (`>=`), 0 (`=`)."""

    def __init__(self, form, kind):
        self.form = form
        self.kind = kind
        self.numbers, self.bottom = over_one_bottom(form)


def point_or_weights(told, size):
    """So many unknown numbers that keep all that is told, and None; or None, and weights that show that none do.

    The numbers are whole ones over one bottom: the list of these, and the bottom. The weights
    are 0 or more but at `=`, some `>` has one above 0, and the forms, each times its
    weight, add up to noughts. Any numbers that keep the forms can be made greater at will:
    so 1 or more may be asked where more than 0 is told.
    """
    found = nearest([Wall(one.numbers, 1 if one.kind == ">" else 0, one.kind == "=") for one in told], size)
    if found.numbers is not None:
        return (found.numbers, found.bottom), None
    return None, [weight * one.bottom for weight, one in zip(found.weights, told)]


def does_keep(numbers, told):
    """Whether some unknown numbers, told by whole ones, keep what is told."""
    return is_kept(told.kind, sign_of(whole_product(told.numbers, numbers)))


def opposite_form(form):
    """The form that comes to the opposite."""
    return [-number for number in form]


def added_forms(forms, weights, size):
    """The sum of some forms of so many numbers, each times its weight."""
    total = [Ratio(0)] * size
    for form, weight in zip(forms, weights):
        total = [one + number * weight for one, number in zip(total, form)]
    return total
