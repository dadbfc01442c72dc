"""The search for a pace that keeps rows, told by their steps and kinds, or for nobody's weights."""

from whosefirst.nearest import Wall, dot_product, nearest
from whosefirst.paces import Pace, squares_of
from whosefirst.ratios import Ratio, least_of, over_one_bottom


def pace_or_weights(steps, kinds, axes):
    """A Pace that keeps all rows, and None; or None, and nobody's weights.

    Of all paces of any square that keep the rows, each `>` being read as `>=`, the one
    nearest to rest is looked for. If it is as fast as light or faster, or there is none,
    what holds it are the weights. Otherwise it has to lean a little, so that no `>` is
    level; if it cannot lean so, what holds it there are the weights.
    """
    near = nearest([wall_of(step, kind) for step, kind in zip(steps, kinds)], axes)
    if near.point is None or not squares_of(near.point).is_below(1):
        return None, scaled(near.weights, steps)
    level = [at for at, step in enumerate(steps) if worth_at(step, near.point).sign == 0]
    lean = nearest([wall_to_lean(steps[at], kinds[at]) for at in level], axes)
    if lean.point is None:
        weights = [Ratio(0)] * len(steps)
        for at, weight in zip(level, lean.weights):
            weights[at] = weight
        return None, scaled(weights, steps)
    share = share_to_lean(near.point, lean.point, steps)
    return Pace([part + more * share for part, more in zip(near.point, lean.point)]), None


def whole_step(step):
    """The time and the place of a step in one list of whole numbers, and what these are over."""
    return over_one_bottom([step.time, *step.place])


def wall_of(step, kind):
    """The Wall that the paces keep for which the worth of the step is 0 or more, or just 0."""
    numbers, _ = whole_step(step)
    return Wall([-number for number in numbers[1:]], -numbers[0], kind == "=")


def wall_to_lean(step, kind):
    """The Wall for a change of a pace that calls the step level: the worth must grow, not fall, or stay."""
    numbers, _ = whole_step(step)
    return Wall([-number for number in numbers[1:]], 1 if kind == ">" else 0, kind == "=")


def scaled(weights, steps):
    """Weights for walls as weights for the steps that these were made of."""
    return [weight * whole_step(step)[1] for weight, step in zip(weights, steps)]


def worth_at(step, point):
    """The worth of a step at a pace of any square."""
    return step.time - dot_product(step.place, point)


def share_to_lean(point, lean, steps):
    """How much of a change a pace can take and stay slower than light, and keep late what it calls late."""
    half = Ratio(1, 2)
    shares = [Ratio(1)]
    for step in steps:
        fall = dot_product(step.place, lean)
        if fall.sign > 0:
            shares.append((worth_at(step, point) * half).over(fall))
    # Of a share up to 1 the square grows by no more than this, times the share.
    growth = abs(dot_product(point, lean)) * 2 + squares_of(lean)
    if growth.sign > 0:
        shares.append(((Ratio(1) - squares_of(point)) * half).over(growth))
    return least_of(shares)
