"""Where paces call pairs level, and into which parts these places cut all paces.

A level is all paces at which some pairs are level, and as a rule no other one: of all
paces a sheet, a line or one point. Where it is crossed by lesser levels it falls into
parts; each of them lies beside a part of a lesser level, so is come to by a step aside.
Points are pairs of whole numbers and what these are over; ways are whole numbers.
"""

from whosefirst.calling import pace_at, room_to_light, share_to_lean
from whosefirst.errors import TooMany
from whosefirst.paces import whole_worth
from whosefirst.ratios import lowest, sign_of, whole_product
from whosefirst.spans import Span
from whosefirst.telling import apart_pairs


class Level:
    """The numbers of the pairs that are level, ways straight on it and on one another, its point nearest to rest.

    `crossed` has for each lesser level that crosses it, by its numbers, a way in this one and out of that one;
    `points` has a point for each part.
    """

    def __init__(self, numbers, frame, point):
        self.numbers = numbers
        self.frame = frame
        self.point = point
        self.crossed = {}
        self.points = []


def levels_of(book):
    """All Levels of a book, those of which most pairs ask most first; pairs have their numbers in `apart_pairs`."""
    steps = [book.step_of(Span.between(one, other)) for one, other in apart_pairs(book)]
    levels = {(): Level((), [], ([0] * book.axes, 1))}
    ahead = [levels[()]]
    while ahead:
        level = ahead.pop()
        for number in range(len(steps)):
            if number not in level.numbers and not any([number in numbers for numbers in level.crossed]):
                lesser, way = crossed_by(level, number, steps)
                if lesser is not None:
                    level.crossed[lesser.numbers] = way
                    if lesser.numbers not in levels:
                        levels[lesser.numbers] = lesser
                        ahead.append(lesser)
    # A lesser level, with a longer frame, must have its points by then.
    found = [one for many in range(book.axes, -1, -1) for one in list(levels.values()) if len(one.frame) == many]
    for level in found:
        level.points = points_in_parts(level, levels, steps)
    return found


def crossed_by(level, number, steps):
    """The lesser Level that the pair with a number makes of a Level, and the way to it; None, None without one."""
    step = steps[number]
    way = left_of_frame(step, level.frame)
    if not any(way):
        return None, None
    numbers, bottom = level.point
    worth, along = whole_worth(step.numbers, numbers, bottom), whole_product(step.numbers[1:], way)
    point = lowest([part * along + more * worth for part, more in zip(numbers, way)], bottom * along)
    if room_to_light(point[0], point[1]) <= 0:
        return None, None
    frame = [*level.frame, way]
    return Level(numbers_level_on(frame, point, steps), frame, point), way


def left_of_frame(step, frame):
    """What is left of the place of a step, in whole numbers, if it must stand straight on all ways of a frame."""
    way, below = step.numbers[1:], step.bottom
    for side in frame:
        square, share = whole_product(side, side), whole_product(way, side)
        way = [part * square - share * along for part, along in zip(way, side)]
        below = below * square
    return lowest(way, below)[0]


def numbers_level_on(frame, point, steps):
    """The numbers of the pairs that are level at all paces of a level."""
    level = [number for number, step in enumerate(steps) if whole_worth(step.numbers, point[0], point[1]) == 0]
    return tuple([number for number in level if not any(left_of_frame(steps[number], frame))])


def points_in_parts(level, levels, steps):
    """A point in each part into which a level is cut by those that cross it."""
    if not level.crossed:
        return [level.point]
    points = {}
    for numbers in level.crossed:
        way = level.crossed[numbers]
        for point in levels[numbers].points:
            signs = [sign_of(whole_worth(step.numbers, point[0], point[1])) for step in steps]
            for side in (way, [-part for part in way]):
                beside = signs_beside(signs, side, steps)
                if beside not in points:
                    points[beside] = point_beside(point, signs, side, steps)
    return list(points.values())


def signs_beside(signs, way, steps):
    """The signs of the worths of all steps just beside a point, by those at the point."""
    falls = [whole_product(step.numbers[1:], way) for step in steps]
    return tuple([sign if sign != 0 else -sign_of(fall) for sign, fall in zip(signs, falls)])


def point_beside(point, signs, way, steps):
    """A point so little beside another one that nothing that is not level there changes its sign."""
    late = [[sign * number for number in step.numbers] for sign, step in zip(signs, steps) if sign != 0]
    share = share_to_lean(point, (way, 1), late)
    # A lesser share with a short text serves as well.
    many = -(-share.bottom // share.top)
    numbers, bottom = point
    return lowest([part * many + more * bottom for part, more in zip(numbers, way)], bottom * many)


def paces_in_parts(book):
    """For each level the numbers of its pairs, and a Pace in each part of it."""
    levels = levels_of(book)
    return [(level.numbers, [pace_at(numbers, bottom) for numbers, bottom in level.points]) for level in levels]


def ask_few(book, mosts):
    """A book must not have more happenings than are told for its axes."""
    most = mosts[book.axes - 1]
    if len(book) > most:
        raise TooMany("happenings", most)
