"""Where paces call pairs level, and into which parts these places cut all paces.

A level is all paces at which some pairs are level, and as a rule no other one: of all
paces a sheet, a line or one point. Where it is crossed by lesser levels it falls into
parts; each of them lies beside a part of a lesser level, so is come to by a step aside.
"""

from whosefirst.calling import share_to_lean, worth_at
from whosefirst.errors import TooMany
from whosefirst.nearest import dot_product, moved_along
from whosefirst.paces import Pace, squares_of
from whosefirst.ratios import Ratio, over_one_bottom
from whosefirst.spans import Span
from whosefirst.telling import apart_pairs


class Level:
    """The numbers of the pairs that are level, ways straight on it and on one another, its point nearest to rest.

    `crossed` has for each lesser level that crosses it, by its numbers, a way in this one and out of that one;
    `points` has a point for each part.
    """

    def __init__(self, numbers, frame, point):
        self.numbers = numbers
        self.frame = frame
        self.point = point
        self.crossed = {}
        self.points = []


def levels_of(book):
    """All Levels of a book, those of which most pairs ask most first; pairs have their numbers in `apart_pairs`."""
    steps = [book.step_of(Span.between(one, other)) for one, other in apart_pairs(book)]
    levels = {(): Level((), [], [Ratio(0)] * book.axes)}
    ahead = [levels[()]]
    while ahead:
        level = ahead.pop()
        for number in range(len(steps)):
            if number not in level.numbers and not any([number in numbers for numbers in level.crossed]):
                lesser, way = crossed_by(level, number, steps)
                if lesser is not None:
                    level.crossed[lesser.numbers] = way
                    if lesser.numbers not in levels:
                        levels[lesser.numbers] = lesser
                        ahead.append(lesser)
    # A lesser level, with a longer frame, must have its points by then.
    found = [one for many in range(book.axes, -1, -1) for one in list(levels.values()) if len(one.frame) == many]
    for level in found:
        level.points = points_in_parts(level, levels, steps)
    return found


def crossed_by(level, number, steps):
    """The lesser Level that the pair with a number makes of a Level, and the way to it; None, None without one."""
    step = steps[number]
    way = left_of_frame(step.place, level.frame)
    if not any(way):
        return None, None
    length = worth_at(step, level.point).over(dot_product(step.place, way))
    point = moved_along(level.point, way, length)
    if not squares_of(point).is_below(1):
        return None, None
    frame = [*level.frame, way]
    return Level(numbers_level_on(frame, point, steps), frame, point), way


def left_of_frame(place, frame):
    """What is left of a place, in whole numbers, if it must stand straight on all ways of a frame."""
    way = list(place)
    for side in frame:
        share = dot_product(place, side).over(dot_product(side, side))
        way = [part - share * along for part, along in zip(way, side)]
    numbers, _ = over_one_bottom(way)
    return [Ratio(number) for number in numbers]


def numbers_level_on(frame, point, steps):
    """The numbers of the pairs that are level at all paces of a level."""
    level = [number for number, step in enumerate(steps) if worth_at(step, point).sign == 0]
    return tuple([number for number in level if not any(left_of_frame(steps[number].place, frame))])


def points_in_parts(level, levels, steps):
    """A point in each part into which a level is cut by those that cross it."""
    if not level.crossed:
        return [level.point]
    points = {}
    for numbers in level.crossed:
        way = level.crossed[numbers]
        for side in (way, [-part for part in way]):
            for point in levels[numbers].points:
                signs = signs_beside(point, side, steps)
                if signs not in points:
                    points[signs] = point_beside(point, side, steps)
    return list(points.values())


def signs_beside(point, way, steps):
    """The signs of the worths of all steps just beside a point."""
    signs = [worth_at(step, point).sign for step in steps]
    return tuple([sign if sign != 0 else -dot_product(step.place, way).sign for sign, step in zip(signs, steps)])


def point_beside(point, way, steps):
    """A point so little beside another one that nothing that is not level there changes its sign."""
    signs = [worth_at(step, point).sign for step in steps]
    late = [step * sign for sign, step in zip(signs, steps) if sign != 0]
    share = share_to_lean(point, way, late)
    # A lesser share with a short text serves as well.
    return moved_along(point, way, Ratio(1, -(-share.bottom // share.top)))


def paces_in_parts(book):
    """For each level the numbers of its pairs, and a Pace in each part of it."""
    return [(level.numbers, [Pace(point) for point in level.points]) for level in levels_of(book)]


def ask_few(book, mosts):
    """A book must not have more happenings than are told for its axes."""
    most = mosts[book.axes - 1]
    if len(book) > most:
        raise TooMany("happenings", most)
