"""Values with one thing changed, and papers that have them."""

from whosefirst.paces import Pace
from whosefirst.ratios import Ratio


def bent(value):
    """All values that are this one with one thing changed, somewhere within."""
    if type(value) is tuple:
        return [*shaken(value), *[(*value[:at], other, *value[at + 1:]) for at, part in enumerate(value) for other in bent(part)]]
    if type(value) is int:
        return [value + 1, value - 1, -value, Ratio(value), bool(value), None, str(value), (value,)]
    if type(value) is Ratio:
        return [value + 1, value * 2, -value, Ratio(0), True, None, str(value), (value,)]
    if type(value) is str:
        return [value + "a", value.upper(), "", None, (value,), 0, "cut", "nobody", "side", "put"]
    if type(value) is bool:
        return [not value, int(value), None]
    if value is None:
        return [(), ("nobody", ()), ("nobody",), ("cut", 0, None, None, None), False, "", 0]
    if type(value) is Pace:
        return [-value, Pace([0] * value.axes), Pace([Ratio(1, 3)] * value.axes), Pace([0] * (value.axes % 3 + 1)), value.parts, str(value), None]
    return [None, 0, (value,)]


def shaken(parts):
    """A tuple with a part left out, doubled, exchanged with the next one, put in front or behind, and none at all."""
    found = [(), None, "ab", 0, parts + (None,), parts + (0,), (0,) + parts]
    for at, part in enumerate(parts):
        found += [parts[:at] + parts[at + 1:], parts[:at + 1] + parts[at:]]
        if at + 1 < len(parts):
            found.append((*parts[:at], parts[at + 1], part, *parts[at + 2:]))
    return found


def bent_papers(paper):
    """Papers of the class of this one with one thing changed in their parts."""
    return [type(paper)(*parts) for parts in bent(paper.parts) if type(parts) is tuple and len(parts) == len(paper.parts)]
