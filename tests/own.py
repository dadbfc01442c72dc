"""The tests' own sums, in Fractions: what is called and kept, and which papers are right, without the package's help."""

from fractions import Fraction

from whosefirst.callers import Nobody, Somebody
from whosefirst.clashes import Clash
from whosefirst.paces import Pace
from whosefirst.ratios import Ratio
from whosefirst.spans import Span
from whosefirst.words import Always, Never, Open

KINDS = (">", ">=", "=")


def exact(number):
    """A Ratio or an integer as a Fraction."""
    return Fraction(number.top, number.bottom) if type(number) is Ratio else Fraction(number)


def is_number(value):
    return type(value) in (int, Ratio)


def is_index(value, many):
    return type(value) is int and 0 <= value < many


def are_weights(value, many):
    return type(value) is tuple and len(value) == many and all(is_number(number) for number in value)


def sign_of(number):
    return (number > 0) - (number < 0)


def step_of(book, span):
    """The time and the place of a span's step, in one list."""
    numbers = [Fraction(0)] * (book.axes + 1)
    for name, times in span.terms:
        spot = book.spot_of(name)
        numbers = [one + exact(times) * exact(more) for one, more in zip(numbers, (spot.time, *spot.place))]
    return numbers


def worth(book, pace, span):
    time, *place = step_of(book, span)
    return time - sum(exact(part) * number for part, number in zip(pace.parts, place))


def holds(kind, sign):
    return {">": sign > 0, ">=": sign >= 0, "=": sign == 0}[kind]


def keeps(book, pace, rows):
    return all(holds(row.kind, sign_of(worth(book, pace, row.span))) for row in rows)


def is_nobody(book, told, weights):
    """Whether weights are nobody's for pairs (span, kind)."""
    if not are_weights(weights, len(told)):
        return False
    if any(kind != "=" and exact(weight) < 0 for (_, kind), weight in zip(told, weights)):
        return False
    total = [Fraction(0)] * (book.axes + 1)
    for (span, _), weight in zip(told, weights):
        total = [one + exact(weight) * more for one, more in zip(total, step_of(book, span))]
    if any(total):
        return total[0] < 0 and total[0] ** 2 >= sum(number ** 2 for number in total[1:])
    return any(kind == ">" and exact(weight) > 0 for (_, kind), weight in zip(told, weights))


def told_of(rows):
    return [(row.span, row.kind) for row in rows]


def is_pace(book, value):
    return type(value) is Pace and value.axes == book.axes


def is_caller(book, rows, value):
    if type(value) is Somebody:
        return is_pace(book, value.pace) and keeps(book, value.pace, rows)
    return type(value) is Nobody and is_nobody(book, told_of(rows), value.weights)


def is_clash(book, rows, value):
    if type(value) is Somebody:
        return is_caller(book, rows, value)
    if type(value) is not Clash or type(value.numbers) is not tuple or not all(is_index(number, len(rows)) for number in value.numbers):
        return False
    if any(one >= other for one, other in zip(value.numbers, value.numbers[1:])):
        return False
    barred = [rows[number] for number in value.numbers]
    if not is_nobody(book, told_of(barred), value.weights) or type(value.paces) is not tuple or len(value.paces) != len(barred):
        return False
    return all(is_pace(book, pace) and keeps(book, pace, barred[:at] + barred[at + 1:]) for at, pace in enumerate(value.paces))


def road_paces(book, rows):
    """On a road: a pace in each part into which the rows cut the paces, so that whatever somebody keeps one of these keeps."""
    ends = {Fraction(-1), Fraction(1)}
    for row in rows:
        time, place = step_of(book, row.span)
        if place and abs(time / place) < 1:
            ends.add(time / place)
    ends = sorted(ends)
    middles = [(one + other) / 2 for one, other in zip(ends, ends[1:])]
    return [Pace([Ratio(part.numerator, part.denominator)]) for part in sorted(ends[1:-1] + middles)]


def random_span(source, names):
    """A span between two names, or over all of them, perhaps nothing."""
    if source.random() < 0.6:
        return Span.between(source.choice(names), source.choice(names))
    terms = {name: Ratio(source.randint(-2, 2), source.randint(1, 2)) for name in names}
    rest = Ratio(0)
    for number in terms.values():
        rest = rest + number
    terms[names[0]] = terms[names[0]] - rest
    return Span(terms)


def settled(parts, known):
    """What is settled of the last part: known has True or False for the numbers of rows that are cut."""
    found = []
    row = 0
    for word, *rest in parts:
        if word == "row":
            found.append(known.get(row))
            row += 1
        elif word in ("yes", "no"):
            found.append(word == "yes")
        elif word == "not":
            found.append({True: False, False: True, None: None}[found[rest[0]]])
        else:
            due = rest[0] if word == "least" else len(rest) if word == "and" else 1
            below = [found[number] for number in (rest[1:] if word == "least" else rest)]
            sure, possible = below.count(True), len(below) - below.count(False)
            found.append(True if sure >= due else False if possible < due else None)
    return found[-1]


def truth(saying, signs):
    return settled(saying.parts, {number: holds(row.kind, sign) for number, (row, sign) in enumerate(zip(saying.rows, signs))})


def keeps_saying(book, pace, saying):
    return truth(saying, [sign_of(worth(book, pace, row.span)) for row in saying.rows])


def is_tree(book, saying, tree, told, cuts, aim):
    """Whether a tree is right: told has pairs (span, kind) of the given rows and the cuts."""
    if tree is None:
        return settled(saying.parts, {number: holds(saying.rows[number].kind, sign) for number, sign in cuts.items()}) is aim
    if type(tree) is not tuple or len(tree) < 2 or type(tree[0]) is not str:
        return False
    if tree[0] == "nobody":
        return len(tree) == 2 and is_nobody(book, told, tree[1])
    if tree[0] != "cut" or len(tree) != 5 or not is_index(tree[1], len(saying.rows)) or tree[1] in cuts:
        return False
    span = saying.rows[tree[1]].span
    ways = ((1, span, ">"), (0, span, "="), (-1, -span, ">"))
    return all(is_tree(book, saying, below, [*told, (turned, kind)], {**cuts, tree[1]: sign}, aim)
               for (sign, turned, kind), below in zip(ways, tree[2:]))


def is_word(book, saying, given, value):
    if type(value) in (Always, Never):
        return is_tree(book, saying, value.tree, told_of(given), {}, type(value) is Always)
    if type(value) is not Open or not is_pace(book, value.one) or not is_pace(book, value.other):
        return False
    if not keeps(book, value.one, given) or not keeps(book, value.other, given):
        return False
    return keeps_saying(book, value.one, saying) and not keeps_saying(book, value.other, saying)
