"""The tests' own sums about tables: rings, patterns by all orders of the left lights, parts by all sets of names."""

import random
from itertools import combinations, permutations

from own import exact
from whosefirst.books import Book
from whosefirst.placed import NoOrder, Placed, Ring
from whosefirst.ratios import Ratio
from whosefirst.tables import Table


def leads(table, one, other):
    return (one, other) in set(table.pairs)


def apart(table, one, other):
    return one != other and not leads(table, one, other) and not leads(table, other, one)


def sides(table):
    return [(one, other) for one in table.names for other in table.names if apart(table, one, other)]


def tied(table, one, other):
    ends = {one[0], one[1], other[0], other[1]}
    if len(ends) != 3 or not (one[0] == other[0] or one[1] == other[1]):
        return False
    first, second = (one[1], other[1]) if one[0] == other[0] else (one[0], other[0])
    return not apart(table, first, second)


def going_with(table, side):
    """All sides that go with one: grown until nothing more is tied."""
    found = {side}
    while True:
        more = {other for other in sides(table) if any(tied(table, one, other) for one in found)} | found
        if more == found:
            return found
        found = more


def is_order(table):
    return all(leads(table, one, other) for one in table.names for middle in table.names for other in table.names
               if leads(table, one, middle) and leads(table, middle, other))


def lights(book, name):
    spot = book.spot_of(name)
    return exact(spot.time) - exact(spot.place[0]), exact(spot.time) + exact(spot.place[0])


def table_of(book):
    """The names and pairs of the table that is of a book on a road, by its lights."""
    pairs = [(one, other) for one in book for other in book
             if one != other and all(mine <= theirs for mine, theirs in zip(lights(book, one), lights(book, other)))]
    return Table(book.names, pairs)


def pattern(book):
    """All sides of a book on a road: u falls and w rises from left to right."""
    return tuple(sorted((one, other) for one in book for other in book
                        if lights(book, one)[0] > lights(book, other)[0] and lights(book, one)[1] < lights(book, other)[1]))


def patterns(table):
    """All patterns: each order of the left lights makes, or bars, one of the right lights."""
    found = set()
    reaching = set(table.pairs)
    for names in permutations(table.names):
        lower = {name: 0 for name in names}
        here = []
        for one, other in combinations(names, 2):
            if (other, one) in reaching:
                break
            if (one, other) in reaching:
                lower[other] += 1
            else:
                lower[one] += 1
                here.append((one, other))
        else:
            # The right lights are in one order just if each name has another number of names below it.
            if len(set(lower.values())) == len(names):
                found.add(tuple(sorted(here)))
    return sorted(found)


def is_part(table, names, part):
    """Whether no other one of the names tells those of the part from one another."""
    return all(len({(leads(table, name, member), leads(table, member, name)) for member in part}) == 1 for name in names if name not in part)


def sets_of(names, least=1):
    return [some for many in range(least, len(names) + 1) for some in combinations(names, many)]


def shared_out(table, names, is_so):
    """The names shared out into as many parts as can be, so that of names of unlike parts something always is so; None for one part alone."""
    parts = [some for some in sets_of(names) if all(is_so(one, other) for one in some for other in names if other not in some)]
    least = [part for part in parts if not any(set(other) < set(part) for other in parts)]
    return None if least == [tuple(names)] else sorted(least)


def tree(table, names):
    if len(names) == 1:
        return names[0]
    parts = shared_out(table, names, lambda one, other: apart(table, one, other))
    if parts:
        return ("beside", *[tree(table, part) for part in parts])
    parts = shared_out(table, names, lambda one, other: leads(table, one, other) or leads(table, other, one))
    if parts:
        ordered = sorted(parts, key=lambda part: sum(leads(table, other, part[0]) for other in names))
        return ("behind", *[tree(table, part) for part in ordered])
    proper = [some for some in sets_of(names) if len(some) < len(names) and is_part(table, names, some)]
    greatest = [part for part in proper if not any(set(part) < set(other) for other in proper)]
    return ("bound", *[tree(table, part) for part in sorted(greatest)])


def is_placed(table, value):
    """Whether a Placed, a NoOrder or a Ring is right."""
    if type(value) is Placed:
        book = value.book
        return type(book) is Book and book.axes == 1 and book.names == table.names and table_of(book) == table
    if type(value) is NoOrder:
        names = value.parts
        if not all(type(name) is str and name in table.names for name in names):
            return False
        return leads(table, *names[:2]) and leads(table, *names[1:]) and not leads(table, names[0], names[2])
    if type(value) is not Ring or type(value.pairs) is not tuple or len(value.pairs) < 2:
        return False
    if not all(type(pair) is tuple and len(pair) == 2 and pair in sides(table) for pair in value.pairs):
        return False
    return all(tied(table, one, other) for one, other in zip(value.pairs, value.pairs[1:])) and value.pairs[-1] == value.pairs[0][::-1]


def random_road(source, many, spread=6):
    """A book on a road with small lights, so that some are one."""
    spots = {}
    while len(spots) < many:
        u, w = source.randint(-spread, spread), source.randint(-spread, spread)
        if (u, w) not in spots.values():
            spots[f"{source.choice('abcdxyz')}{len(spots)}"] = (u, w)
    return Book(1, {name: (Ratio(u + w, 2), [Ratio(w - u, 2)]) for name, (u, w) in spots.items()})


def random_order(source, many):
    """A table that is an order: pairs along a line, and all that they lead to."""
    names = [f"n{at}" for at in range(many)]
    share = source.choice([0.1, 0.25, 0.4, 0.7])
    pairs = {pair for pair in combinations(names, 2) if source.random() < share}
    for middle in names:
        for one in names:
            for other in names:
                if (one, middle) in pairs and (middle, other) in pairs:
                    pairs.add((one, other))
    turned = dict(zip(names, source.sample(names, many)))
    return Table(names, [(turned[one], turned[other]) for one, other in sorted(pairs)])


def random_table(source, many):
    """A table with whatever pairs."""
    names = [f"n{at}" for at in range(many)]
    pairs = [source.choice([pair, pair[::-1]]) for pair in combinations(names, 2) if source.random() < source.choice([0.3, 0.8])]
    return Table(names, pairs)


CROWN = Table(["a1", "a2", "a3", "b1", "b2", "b3"], [("a1", "b2"), ("a1", "b3"), ("a2", "b1"), ("a2", "b3"), ("a3", "b1"), ("a3", "b2")])


def some_tables(most=6):
    """Tables of books, other orders, and whatever else; of one name, of none apart, of all apart."""
    source = random.Random(130)
    found = [Table(["a"], []), Table(["x", "y"], []), Table(["x", "y"], [("y", "x")]), Table(list("abc"), [("a", "b"), ("b", "c"), ("c", "a")])]
    for many in range(3, most + 1):
        names = [f"n{at}" for at in range(many)]
        found += [Table(names, []), Table(names, list(combinations(names, 2)))]
        for _ in range(8):
            found += [table_of(random_road(source, many)), random_order(source, many)]
        found += [random_table(source, many) for _ in range(3)]
    return found + ([CROWN, Table([*CROWN.names, "c"], CROWN.pairs), Table([*CROWN.names, "c"], [*CROWN.pairs, *[(name, "c") for name in CROWN.names]])] if most >= 6 else [])
