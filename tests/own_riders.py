"""The tests' own sums about riders, in Fractions: lights, marks, worths of rows, and which trees of riders are right."""

import random

from own import are_weights, exact, holds, is_index, random_span, settled, sign_of, truth
from whosefirst.books import Book
from whosefirst.paces import Pace
from whosefirst.ratios import Ratio
from whosefirst.rider_rows import RiderRow, SideRow
from whosefirst.riders import Rider
from whosefirst.rows import Row
from whosefirst.sayings import Saying
from whosefirst.spans import Span
from whosefirst.words import Always, Never, Open

KINDS = (">", ">=", "=")


def lights(book, name):
    spot = book.spot_of(name)
    return exact(spot.time - spot.place[0]), exact(spot.time + spot.place[0])


def line(rider):
    """p and q, from pace and stand."""
    v, stand = exact(rider.pace.parts[0]), exact(rider.stand)
    p = (1 + v) / (1 - v)
    return p, (1 + p) * stand


def mark(book, rider, name):
    (u, w), (p, q) = lights(book, name), line(rider)
    return max(p * u, w - q)


def row_worth(book, rider, row):
    p, q = line(rider)
    if type(row) is SideRow:
        u, w = lights(book, row.name)
        return w - p * u - q if row.side == "right" else p * u + q - w
    called = row.span if type(row) is Row else row.called
    total = sum(exact(times) * (p * lights(book, name)[0] + lights(book, name)[1]) for name, times in called.terms)
    if type(row) is Row:
        return total
    return total / 2 + sum(exact(times) * mark(book, rider, name) for name, times in row.seen.terms)


def kind_of(row):
    return ("=" if row.side == "through" else ">") if type(row) is SideRow else row.kind


def rides(book, rider, rows):
    """Whether a rider keeps all rows."""
    return all(holds(kind_of(row), sign_of(row_worth(book, rider, row))) for row in rows)


def rides_saying(book, rider, saying):
    return truth(saying, [sign_of(row_worth(book, rider, row)) for row in saying.rows])


def form(book, row, sides):
    """A, B and C of a row's worth by the sides told, None if it is unclear."""
    if type(row) is SideRow:
        u, w = lights(book, row.name)
        return (-u, -1, w) if row.side == "right" else (u, 1, -w)
    a = b = c = 0
    called = row.span if type(row) is Row else row.called
    for name, times in called.terms:
        u, w = lights(book, name)
        part = exact(times) / (1 if type(row) is Row else 2)
        a, c = a + part * u, c + part * w
    for name, times in row.seen.terms if type(row) is RiderRow else ():
        u, w = lights(book, name)
        if name not in sides:
            return None
        if sides[name] == "left":
            a += exact(times) * u
        else:
            b, c = b - exact(times), c + exact(times) * w
    return a, b, c


def are_nobodys(forms, weights):
    """Whether weights are nobody's for pairs (form, kind)."""
    if not are_weights(weights, len(forms)):
        return False
    total, late = [0, 0, 0], False
    for (numbers, kind), weight in zip(forms, map(exact, weights)):
        if (weight < 0 and kind != "=") or (weight and numbers is None):
            return False
        late = late or (kind == ">" and weight > 0)
        total = [one + weight * more for one, more in zip(total, numbers or (0, 0, 0))]
    return total[1] == 0 and total[0] <= 0 and total[2] <= 0 and (total[0] < 0 or total[2] < 0 or late)


def is_rider_tree(book, saying, given, tree, told, sides, cuts, aim):
    """Whether a tree of riders is right: told has pairs (form, kind) of the cuts and sides, from the top."""
    if tree is None:
        return settled(saying.parts, {number: holds(kind_of(saying.rows[number]), sign) for number, sign in cuts.items()}) is aim
    if type(tree) is not tuple or len(tree) < 2 or type(tree[0]) is not str:
        return False
    if tree[0] == "nobody":
        return len(tree) == 2 and are_nobodys([(form(book, row, sides), kind_of(row)) for row in given] + told, tree[1])
    if tree[0] == "side":
        if len(tree) != 4 or type(tree[1]) is not str or tree[1] not in book.names or tree[1] in sides:
            return False
        return all(is_rider_tree(book, saying, given, below, [*told, (form(book, SideRow(tree[1], side), {}), ">=")], {**sides, tree[1]: side}, cuts, aim)
                   for side, below in zip(("left", "right"), tree[2:]))
    if tree[0] != "cut" or len(tree) != 5 or not is_index(tree[1], len(saying.rows)) or tree[1] in cuts:
        return False
    numbers = form(book, saying.rows[tree[1]], sides)
    if numbers is None:
        return False
    ways = ((1, numbers, ">"), (0, numbers, "="), (-1, tuple(-number for number in numbers), ">"))
    return all(is_rider_tree(book, saying, given, below, [*told, (turned, kind)], sides, {**cuts, tree[1]: sign}, aim)
               for (sign, turned, kind), below in zip(ways, tree[2:]))


def is_rider_word(book, saying, given, value):
    if type(value) in (Always, Never):
        return is_rider_tree(book, saying, given, value.tree, [], {}, {}, type(value) is Always)
    if type(value) is not Open or type(value.one) is not Rider or type(value.other) is not Rider:
        return False
    if not rides(book, value.one, given) or not rides(book, value.other, given):
        return False
    return rides_saying(book, value.one, saying) and not rides_saying(book, value.other, saying)


def road_books():
    """Books on a road: lights that are one, happenings that reach one another and that are apart, one alone and eight."""
    source = random.Random(80)
    books = [Book(1, {"a": (0, [0]), "b": (1, [2])}), Book(1, {"a": (5, [5]), "b": (5, [-5]), "c": (8, [0])}), Book(1, {"x": (Ratio(1, 2), [-3])}),
             Book(1, {"a": (0, [0]), "b": (1, [1]), "c": (2, [2]), "d": (3, [1])}), Book(1, {"a": (0, [0]), "b": (0, [1]), "c": (0, [2])})]
    for many in (3, 4, 5, 8):
        books.append(Book(1, {f"n{at}": (Ratio(source.randint(-9, 9), 2), [Ratio(7 * at + source.randint(-3, 3), 3)]) for at in range(many)}))
    return books


def some_riders(book):
    """Riders of many paces: through a happening, through two, with all to one side, and elsewhere."""
    source = random.Random(81)
    riders = [Rider(Pace([part]), stand) for part in (0, Ratio(1, 2), Ratio(-3, 5), Ratio(99, 100)) for stand in (0, Ratio(7, 3), -40, 1000)]
    for name in book.names[:4]:
        spot = book.spot_of(name)
        for part in (Ratio(source.randint(-9, 9), 10), Ratio(source.randint(-9, 9), 10)):
            riders.append(Rider(Pace([part]), spot.place[0] - part * spot.time))
        for other in book.names[:4]:
            end = book.spot_of(other)
            if (end - spot).kind == "forward" and (end - spot).square != 0:
                part = (end - spot).place[0].over((end - spot).time)
                riders.append(Rider(Pace([part]), spot.place[0] - part * spot.time))
    return riders


def random_rider_rows(source, book, many, names=3):
    """Rows of riders of all classes; the seen spans have so many of the names."""
    rows = []
    for _ in range(many):
        kind, which = source.choice(KINDS), source.random()
        if which < 0.2:
            rows.append(Row(random_span(source, book.names), kind))
        elif which < 0.45:
            rows.append(SideRow(source.choice(book.names), source.choice(["left", "through", "right"])))
        else:
            called = Span({}) if source.random() < 0.6 else random_span(source, book.names)
            rows.append(RiderRow(called, random_span(source, book.names[:names]), kind))
    return rows


def random_rider_saying(source, book, many, names=3):
    from test_sayings import random_parts
    return Saying(random_parts(source, source.randint(1, 8), random_rider_rows(source, book, many, names)))
