"""The point nearest to nought that keeps walls, in exact numbers.

A wall is a normal and a least number, all whole numbers: a point keeps it if the
normal times the point comes to the least number or more; a tight wall, to just it.
"""

from whosefirst.ratios import Ratio, over_one_bottom


class Wall:
    """A normal, a least number, and whether it is tight."""

    def __init__(self, normal, least, is_tight):
        self.normal = tuple(normal)
        self.least = least
        self.is_tight = is_tight


class Pull:
    """A wall that holds the point: its number, the side that it pulls to, and how hard it does."""

    def __init__(self, number, side, wall):
        self.number = number
        self.side = side
        self.normal = tuple([side * part for part in wall.normal])
        self.least = side * wall.least
        self.is_tight = wall.is_tight
        self.force = Ratio(0)


class Nearest:
    """The answer for some walls: the point, or None if no point keeps all of them, and a weight for each wall.

    The weights are 0 or more but at tight walls. With a point the normals, each times
    its weight, add up to it, and only walls that it touches have weights unlike 0.
    Without one they add up to nought, but the least numbers to more than 0.
    """

    def __init__(self, walls, point, pulls):
        self.point = point
        self.weights = [Ratio(0)] * len(walls)
        for pull in pulls:
            self.weights[pull.number] = pull.force * pull.side


def nearest(walls, axes):
    """The Nearest for some walls.

    The point begins at nought, and walls that it breaks are taken in one by one; those
    that would then push instead of pull are let go. Each wall taken in puts the point
    farther from nought, so no set of walls comes twice, and the search ends.
    """
    point = [Ratio(0)] * axes
    held = []
    fresh = first_broken(walls, point)
    while fresh is not None:
        shares = shares_of(fresh.normal, held)
        way = left_over(fresh.normal, held, shares)
        loose = first_loose(held, shares)
        if loose is None and not any(way):
            return Nearest(walls, None, pulls_apart(fresh, held, shares))
        length = length_of_way(fresh, point, way)
        if loose is not None and (length is None or slack_of(held, shares, loose).is_below(length)):
            length = slack_of(held, shares, loose)
            point = moved_along(point, way, length)
            pull_by(fresh, held, shares, length)
            del held[loose]
        else:
            point = moved_along(point, way, length)
            pull_by(fresh, held, shares, length)
            held.append(fresh)
            fresh = first_broken(walls, point)
    return Nearest(walls, point, held)


def first_broken(walls, point):
    """A Pull by the first wall that the point does not keep, None if it keeps all."""
    numbers, bottom = over_one_bottom(point)
    for number, wall in enumerate(walls):
        over = sum([part * along for part, along in zip(wall.normal, numbers)]) - wall.least * bottom
        if over < 0:
            return Pull(number, 1, wall)
        if over > 0 and wall.is_tight:
            return Pull(number, -1, wall)
    return None


def dot_product(one, other):
    """The sum of the products of two rows of whole numbers or Ratios, part by part."""
    total = Ratio(0)
    for part, factor in zip(one, other):
        total = total + Ratio.of(part) * factor
    return total


def shares_of(normal, held):
    """How many times each held normal is in this one, so that what is left over stands straight on all of them."""
    columns = [pull.normal for pull in held] + [normal]
    rows = [[dot_product(pull.normal, column) for column in columns] for pull in held]
    for k in range(len(rows)):
        # Held normals never add up to nought, so that this number is above 0.
        rows[k] = [number.over(rows[k][k]) for number in rows[k]]
        for n in range(len(rows)):
            if n != k:
                factor = rows[n][k]
                rows[n] = [number - factor * first for number, first in zip(rows[n], rows[k])]
    return [row[-1] for row in rows]


def left_over(normal, held, shares):
    """The normal less the held ones, each as often as it is in it."""
    way = [Ratio(part) for part in normal]
    for pull, share in zip(held, shares):
        way = [number - share * part for number, part in zip(way, pull.normal)]
    return way


def slack_of(held, shares, at):
    """For how long a held wall still pulls while the fresh one is taken in."""
    return held[at].force.over(shares[at])


def first_loose(held, shares):
    """The index of the held wall that first pulls no longer while the fresh one is taken in, None if all do."""
    loose = None
    for at in range(len(held)):
        if shares[at].sign > 0 and not held[at].is_tight:
            if loose is None or slack_of(held, shares, at).is_below(slack_of(held, shares, loose)):
                loose = at
    return loose


def length_of_way(fresh, point, way):
    """How many times the way leads from the point to the fresh wall, None if there is no way."""
    square = dot_product(way, way)
    if square.sign == 0:
        return None
    return (Ratio(fresh.least) - dot_product(fresh.normal, point)).over(square)


def moved_along(point, way, length):
    """The point moved so many times along the way."""
    return [number + part * length for number, part in zip(point, way)]


def pull_by(fresh, held, shares, length):
    """Lets the fresh wall pull by this much harder, and the held ones less by their shares."""
    fresh.force = fresh.force + length
    for pull, share in zip(held, shares):
        pull.force = pull.force - share * length


def pulls_apart(fresh, held, shares):
    """The Pulls that show that no point keeps the fresh wall with the held ones, which it is made of."""
    fresh.force = Ratio(1)
    for pull, share in zip(held, shares):
        pull.force = -share
    return [fresh, *held]
