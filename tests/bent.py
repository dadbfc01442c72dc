"""Values with one thing changed, and papers that have them."""

from whosefirst.books import Book
from whosefirst.paces import Pace
from whosefirst.ratios import Ratio
from whosefirst.steps import Step
from whosefirst.weaves import Weave


def bent(value):
    """All values that are this one with one thing changed, somewhere within."""
    if type(value) is tuple:
        return [*shaken(value), *[(*value[:at], other, *value[at + 1:]) for at, part in enumerate(value) for other in bent(part)]]
    if type(value) is int:
        return [value + 1, value - 1, -value, Ratio(value), bool(value), None, str(value), (value,)]
    if type(value) is Ratio:
        return [value + 1, value * 2, -value, Ratio(0), True, None, str(value), (value,)]
    if type(value) is str:
        return [value + "a", value.upper(), "", None, (value,), 0, "cut", "nobody", "side", "put"]
    if type(value) is bool:
        return [not value, int(value), None]
    if value is None:
        return [(), ("nobody", ()), ("nobody",), ("cut", 0, None, None, None), False, "", 0]
    if type(value) is Pace:
        return [-value, Pace([0] * value.axes), Pace([Ratio(1, 3)] * value.axes), Pace([0] * (value.axes % 3 + 1)), value.parts, str(value), None]
    if type(value) is Step:
        return [value + Step(1, [0] * value.axes), value - Step(0, [Ratio(1, 2)] * value.axes), -value, value * 2, Step.nothing(value.axes),
                Step(value.time, [*value.place[:2], *[0] * (value.axes % 3)][:value.axes % 3 + 1]), str(value), (value.time, value.place), None, 0]
    if type(value) is Weave:
        moves = value.moves
        texts = [moves[::-1], moves[1:], moves[:-1], moves + "u", moves + "b", moves.replace("b", "uw"), moves.replace("uw", "b", 1), moves.replace("uw", "wu", 1),
                 moves.replace("wu", "b", 1), moves.replace("ub", "bu", 1), "w" * len(moves)]
        return [moves, str(value), None, 0, (value,), *[Weave(text) for text in texts if 0 < len(text) <= 16]]
    if type(value) is Book:
        return [*bent_books(value), str(value), value.names, None, 0, (value,)]
    return [None, 0, (value,)]


def bent_books(book):
    """Books with one happening moved, left out, renamed, one more, and of a plane."""
    spots = {name: (book.spot_of(name).time, book.spot_of(name).place) for name in book}
    found = [{**spots, "zz": (10 ** 6, (0,) * book.axes)}] if len(book) < 8 else []
    for name in book:
        time, place = spots[name]
        found += [{**spots, name: (time + Ratio(9, 2), place)}, {**spots, name: (time, (place[0] - 7, *place[1:]))}, {**spots, name: (time + Ratio(1, 9), place)}]
        found += [{other: spots[other] for other in book if other != name}] if len(book) > 1 else []
        found.append({other if other != name else "zy": spots[other] for other in book})
    unlike = [some for some in found if len({(str(time), str(place)) for time, place in some.values()}) == len(some)]
    return [Book(book.axes, some) for some in unlike] + [Book(book.axes % 3 + 1, {name: (spots[name][0], [*spots[name][1], 0, 0][:book.axes % 3 + 1]) for name in book})
                                                       for _ in range(1) if book.axes == 1]


def shaken(parts):
    """A tuple with a part left out, doubled, exchanged with the next one, put in front or behind, and none at all."""
    found = [(), None, "ab", 0, parts + (None,), parts + (0,), (0,) + parts]
    for at, part in enumerate(parts):
        found += [parts[:at] + parts[at + 1:], parts[:at + 1] + parts[at:]]
        if at + 1 < len(parts):
            found.append((*parts[:at], parts[at + 1], part, *parts[at + 2:]))
    return found


def bent_papers(paper):
    """Papers of the class of this one with one thing changed in their parts."""
    return [type(paper)(*parts) for parts in bent(paper.parts) if type(parts) is tuple and len(parts) == len(paper.parts)]
