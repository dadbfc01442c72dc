"""The point nearest to nought that keeps walls, in exact numbers.

A wall is a normal and a least number, all whole numbers: a point keeps it if the
normal times the point comes to the least number or more; a tight wall, to just it.
The search goes by whole numbers over one bottom, as Ratios would be made lowest terms
at each step; what it finds is told in Ratios.
"""

from whosefirst.ratios import Ratio, lowest, whole_product


class Wall:
    """A normal, a least number, and whether it is tight."""

    def __init__(self, normal, least, is_tight):
        self.normal = tuple(normal)
        self.least = least
        self.is_tight = is_tight


class Pull:
    """A wall that holds the point: its number, the side that it pulls to, and how hard it does."""

    def __init__(self, number, side, wall):
        self.number = number
        self.side = side
        self.normal = [side * part for part in wall.normal]
        self.least = side * wall.least
        self.is_tight = wall.is_tight
        self.force = 0


class Nearest:
    """The answer for some walls: the point, and a weight for each wall.

    The point is told by whole numbers over one bottom; None if no point keeps all walls.
    The weights are 0 or more but at tight walls. With a point the normals, each times its
    weight, add up to it, and only walls that it touches have weights unlike 0. Without one
    they add up to nought, but the least numbers to more than 0.
    """

    def __init__(self, walls, numbers, bottom, pulls, below):
        self.numbers = numbers
        self.bottom = bottom
        self.weights = [Ratio(0)] * len(walls)
        for pull in pulls:
            self.weights[pull.number] = Ratio(pull.force * pull.side, below)


class Hold:
    """The point on its way, its parts over one bottom, and the Pulls that hold it, their forces over another one."""

    def __init__(self, axes):
        self.point = [0] * axes
        self.bottom = 1
        self.held = []
        self.below = 1

    def first_broken(self, walls):
        """A Pull by the first wall that the point does not keep, None if it keeps all."""
        for number, wall in enumerate(walls):
            over = whole_product(wall.normal, self.point) - wall.least * self.bottom
            if over < 0:
                return Pull(number, 1, wall)
            if over > 0 and wall.is_tight:
                return Pull(number, -1, wall)
        return None

    def first_loose(self, shares):
        """The index of the Pull that first pulls no longer while a fresh one is taken in, None if all do."""
        loose = None
        for at, pull in enumerate(self.held):
            if shares[at] > 0 and not pull.is_tight:
                if loose is None or pull.force * shares[loose] < self.held[loose].force * shares[at]:
                    loose = at
        return loose

    def move(self, fresh, shares, whole, way, length):
        """Moves the point along the way, so that the fresh wall pulls harder and the held ones less by their shares."""
        top, low = length
        point = [number * low + part * top * self.bottom for number, part in zip(self.point, way)]
        self.point, self.bottom = lowest(point, self.bottom * low)
        pulls = [fresh, *self.held]
        forces = [pull.force * low - share * top * self.below for pull, share in zip(pulls, [-whole, *shares])]
        forces, self.below = lowest(forces, self.below * low)
        for pull, force in zip(pulls, forces):
            pull.force = force


def nearest(walls, axes):
    """The Nearest for some walls.

    The point begins at nought, and walls that it breaks are taken in one by one; those
    that would then push instead of pull are let go. Each wall taken in puts the point
    farther from nought, so no set of walls comes twice, and the search ends.
    """
    hold = Hold(axes)
    fresh = hold.first_broken(walls)
    while fresh is not None:
        shares, whole = shares_of(fresh.normal, hold.held)
        way = left_over(fresh.normal, whole, hold.held, shares)
        square = whole_product(fresh.normal, way)
        loose = hold.first_loose(shares)
        if loose is None and square == 0:
            return Nearest(walls, None, 1, pulls_apart(fresh, whole, hold.held, shares), whole)
        gap = fresh.least * hold.bottom - whole_product(fresh.normal, hold.point)
        if loose is not None and comes_first(hold, shares, loose, gap, square):
            slack = (hold.held[loose].force, hold.below * shares[loose])
            hold.move(fresh, shares, whole, way, slack)
            del hold.held[loose]
        else:
            hold.move(fresh, shares, whole, way, (gap, hold.bottom * square))
            hold.held.append(fresh)
            fresh = hold.first_broken(walls)
    return Nearest(walls, hold.point, hold.bottom, hold.held, hold.below)


def comes_first(hold, shares, loose, gap, square):
    """Whether a Pull gets loose on the way before the fresh wall is come to, or there is no way."""
    if square == 0:
        return True
    return hold.held[loose].force * hold.bottom * square < gap * hold.below * shares[loose]


def shares_of(normal, held):
    """How many times each held normal is in this one, so that what is left over stands straight on all of them.

    They are told over one whole number, above 0: the list of these, and the number.
    """
    rows = []
    for pull in held:
        rows.append([whole_product(pull.normal, other.normal) for other in held] + [whole_product(pull.normal, normal)])
    whole = 1
    for k in range(len(rows)):
        # Held normals never add up to nought, so that this number is above 0; all is parted by the one ahead.
        first = rows[k][k]
        for n in range(len(rows)):
            if n != k:
                factor = rows[n][k]
                rows[n] = [(number * first - factor * head) // whole for number, head in zip(rows[n], rows[k])]
        whole = first
    return [row[-1] for row in rows], whole


def left_over(normal, whole, held, shares):
    """So many times the normal, less the held ones, each as often as it is in it."""
    way = [whole * part for part in normal]
    for pull, share in zip(held, shares):
        way = [number - share * part for number, part in zip(way, pull.normal)]
    return way


def pulls_apart(fresh, whole, held, shares):
    """The Pulls that show that no point keeps the fresh wall with the held ones, which it is made of."""
    fresh.force = whole
    for pull, share in zip(held, shares):
        pull.force = -share
    return [fresh, *held]
