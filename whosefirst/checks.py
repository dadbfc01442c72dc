"""What any value is: the questions that all files ask first."""

LETTERS = "abcdefghijklmnopqrstuvwxyz"
DIGITS = "0123456789"
LONGEST_NAME = 12


def is_integer(value):
    """Whether any value is an integer: True and False are none."""
    return isinstance(value, int) and not isinstance(value, bool)


def is_within(value, least, most):
    """Whether any value is an integer from least to most, None being no bound."""
    if not is_integer(value):
        return False
    return (least is None or value >= least) and (most is None or value <= most)


def is_name(value):
    """Whether any value is a name."""
    if not isinstance(value, str) or not 1 <= len(value) <= LONGEST_NAME:
        return False
    return value[0] in LETTERS and all([sign in LETTERS or sign in DIGITS for sign in value])


def is_listed(value):
    """Whether any value is a list or a tuple."""
    return isinstance(value, (list, tuple))


def are_names(value):
    """Whether any value is a list or a tuple of names."""
    return is_listed(value) and all([is_name(name) for name in value])


def first_twice(values):
    """The first of some names or integers that stood ahead already, None without one."""
    seen = set()
    for value in values:
        if value in seen:
            return value
        seen.add(value)
    return None
