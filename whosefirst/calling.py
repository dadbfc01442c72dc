"""The search for a pace that keeps rows, told by their steps and kinds, or for nobody's weights."""

from whosefirst.nearest import Wall, nearest
from whosefirst.paces import Pace, whole_worth
from whosefirst.ratios import Ratio, least_of, whole_product


def pace_or_weights(steps, kinds, axes):
    """A Pace that keeps all rows, and None; or None, and nobody's weights.

    Of all paces of any square that keep the rows, each `>` being read as `>=`, the one
    nearest to rest is looked for. If it is as fast as light or faster, or there is none,
    what holds it are the weights. Otherwise it has to lean a little, so that no `>` is
    level; if it cannot lean so, what holds it there are the weights.
    """
    near = nearest([wall_of(step, kind) for step, kind in zip(steps, kinds)], axes)
    if near.numbers is None or room_to_light(near.numbers, near.bottom) <= 0:
        return None, scaled(near.weights, steps)
    rows = [step.numbers for step in steps]
    level = [at for at, row in enumerate(rows) if whole_worth(row, near.numbers, near.bottom) == 0]
    lean = nearest([wall_to_lean(steps[at], kinds[at]) for at in level], axes)
    if lean.numbers is None:
        weights = [Ratio(0)] * len(steps)
        for at, weight in zip(level, lean.weights):
            weights[at] = weight
        return None, scaled(weights, steps)
    share = share_to_lean((near.numbers, near.bottom), (lean.numbers, lean.bottom), rows)
    whole = share.bottom * lean.bottom
    parts = [number * whole + more * share.top * near.bottom for number, more in zip(near.numbers, lean.numbers)]
    return pace_at(parts, near.bottom * whole), None


def pace_at(numbers, bottom):
    """The Pace whose parts are whole numbers over a bottom."""
    return Pace([Ratio(number, bottom) for number in numbers])


def wall_of(step, kind):
    """The Wall that the paces keep for which the worth of the step is 0 or more, or just 0."""
    return Wall([-number for number in step.numbers[1:]], -step.numbers[0], kind == "=")


def wall_to_lean(step, kind):
    """The Wall for a change of a pace that calls the step level: the worth must grow, not fall, or stay."""
    return Wall([-number for number in step.numbers[1:]], 1 if kind == ">" else 0, kind == "=")


def scaled(weights, steps):
    """Weights for walls as weights for the steps that these were made of."""
    return [weight * step.bottom for weight, step in zip(weights, steps)]


def room_to_light(numbers, bottom):
    """By how much the square of a pace is below 1, times the square of its bottom."""
    return bottom * bottom - whole_product(numbers, numbers)


def share_to_lean(point, lean, rows):
    """How much of a change a pace can take and stay slower than light, and keep late what it calls late.

    Both the pace and the change are pairs of whole numbers and what these are over; rows are steps, told by
    whole numbers.
    """
    numbers, bottom = point
    way, below = lean
    shares = [Ratio(1)]
    for row in rows:
        fall = whole_product(row[1:], way)
        if fall > 0:
            shares.append(Ratio(whole_worth(row, numbers, bottom) * below, 2 * bottom * fall))
    # Of a share up to 1 the square grows by no more than this, times the share.
    growth = 2 * abs(whole_product(numbers, way)) * below + whole_product(way, way) * bottom
    if growth > 0:
        shares.append(Ratio(room_to_light(numbers, bottom) * below * below, 2 * bottom * growth))
    return least_of(shares)
