"""Eyes: they go along a road as they like, slower than light, and see happenings as news of them comes."""

from whosefirst.asks import ask_happening, asked_ratio
from whosefirst.books import ask_book
from whosefirst.checks import is_listed
from whosefirst.errors import BadEye
from whosefirst.lots import order_by
from whosefirst.news import ask_road, left_of, right_of, spot_of_lights
from whosefirst.ratios import Ratio, are_ratios, greatest_of
from whosefirst.steps import Step
from whosefirst.weaves import Weave, ask_fitting, ascending, unlike_lights

MOST_CORNERS = 40


class Eye:
    """1 to 40 corners, pairs of a time and a place, from each of which it goes to the next one slower than light."""

    def __init__(self, corners):
        if not are_corners(corners):
            raise BadEye("corners")
        self.corners = tuple([(Ratio.of(time), Ratio.of(place)) for time, place in corners])

    def __eq__(self, other):
        return isinstance(other, Eye) and self.corners == other.corners


def eye_place(eye, time):
    """The place where an eye is at a time."""
    ask_eye(eye)
    return place_at(eye, asked_ratio(time, "time"))


def sight_of(book, eye, name):
    """The step from the begin to the time and the place at which an eye sees a happening."""
    ask_book(book)
    ask_eye(eye)
    ask_happening(book, name)
    ask_road(book)
    time = sight_time(book, eye, name)
    return Step(time, [place_at(eye, time)])


def seen_by(book, eye):
    """The order in which an eye sees all happenings."""
    ask_book(book)
    ask_eye(eye)
    ask_road(book)
    return order_by({name: sight_time(book, eye, name) for name in book})


def weave_of(book, eye):
    """The weave of an eye: how it passes the lights of a book."""
    ask_book(book)
    ask_eye(eye)
    ask_road(book)
    rights, lefts = unlike_lights(book)
    right_times = [time_past(eye, light, -1) for light in rights]
    left_times = [time_past(eye, light, 1) for light in lefts]
    moves = []
    for time in ascending(right_times + left_times):
        is_right, is_left = time in right_times, time in left_times
        moves.append("b" if is_right and is_left else "u" if is_right else "w")
    return Weave("".join(moves))


def eye_of(book, weave):
    """An Eye that has a weave: it has a corner where each move is."""
    ask_fitting(book, weave)
    rights, lefts = unlike_lights(book)
    along_right = lights_at_moves(rights, [move != "w" for move in weave.moves])
    along_left = lights_at_moves(lefts, [move != "u" for move in weave.moves])
    spots = [spot_of_lights(right, left) for right, left in zip(along_right, along_left)]
    return Eye([(spot.time, spot.place[0]) for spot in spots])


def are_corners(corners):
    """Whether any value is a list of corners of an eye."""
    if not is_listed(corners) or not 1 <= len(corners) <= MOST_CORNERS:
        return False
    if not all([are_ratios(corner) and len(corner) == 2 for corner in corners]):
        return False
    steps = [Step(time, [place]) for time, place in corners]
    ways = [after - before for before, after in zip(steps, steps[1:])]
    return all([way.kind == "forward" and way.square.sign > 0 for way in ways])


def ask_eye(value):
    """The parameter eye must be an Eye."""
    if not isinstance(value, Eye):
        raise BadEye("eye")


def place_at(eye, time):
    """The place where an eye is at a time, a Ratio."""
    before = [corner for corner in eye.corners if not time.is_below(corner[0])]
    if not before or len(before) == len(eye.corners):
        return before[-1][1] if before else eye.corners[0][1]
    begin, end = before[-1], eye.corners[len(before)]
    share = (time - begin[0]).over(end[0] - begin[0])
    return begin[1] + (end[1] - begin[1]) * share


def sight_time(book, eye, name):
    """When an eye sees a happening: as soon as it has passed both its lights."""
    return greatest_of([time_past(eye, right_of(book, name), -1), time_past(eye, left_of(book, name), 1)])


def time_past(eye, light, side):
    """When an eye passes a left light, side being 1, or a right light, side being -1.

    The light is the time and so many times the place; both ahead of the first corner and
    behind the last one it grows as the time does.
    """
    lights = [time + place * side for time, place in eye.corners]
    before = [at for at, known in enumerate(lights) if not light.is_below(known)]
    if not before or len(before) == len(lights):
        at = before[-1] if before else 0
        return eye.corners[at][0] + (light - lights[at])
    at = before[-1]
    share = (light - lights[at]).over(lights[at + 1] - lights[at])
    return eye.corners[at][0] + (eye.corners[at + 1][0] - eye.corners[at][0]) * share


def lights_at_moves(lights, are_passed):
    """For each move a light, greater than the one ahead: the next one of the lights if one is passed, else between."""
    found = []
    at = 0
    for is_passed in are_passed:
        low = found[-1] if found else None
        high = lights[at] if at < len(lights) else None
        found.append(high if is_passed else ratio_between(low, high))
        at = at + 1 if is_passed else at
    return found


def ratio_between(low, high):
    """A ratio above the low one and below the high one; None for either is no bound."""
    if low is None:
        return high - 1
    return low + 1 if high is None else (low + high) * Ratio(1, 2)
