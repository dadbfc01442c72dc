"""The tests' own sums about eyes: all weaves, what is seen by each, shut states, words over all eyes, which papers are right."""

import random
from functools import lru_cache

from own import holds, is_index, settled, sign_of
from own_tables import lights, random_road
from whosefirst.books import Book
from whosefirst.ratios import Ratio
from whosefirst.seen import SeenBy, Unseen
from whosefirst.weaves import Weave
from whosefirst.words import Always, Never, Open

THREE = Book(1, {"a": (5, [5]), "b": (5, [-5]), "c": (8, [0])})
CROSSED = Book(1, {"a": (3, [-2]), "b": (4, [-1]), "c": (3, [2]), "d": (4, [1])})
# Eight unlike lights of either side.
EIGHT = Book(1, {f"n{at}": (Ratio(at + 3 * at % 8, 2), [Ratio(3 * at % 8 - at, 2)]) for at in range(8)})
PLANE = Book(2, {"a": (0, [0, 0]), "b": (0, [1, 0])})


@lru_cache(maxsize=None)
def lights_of_text(text):
    """All lights of the book with a text; kept, as they are asked for again and again."""
    book = Book.read(text)
    return {name: lights(book, name) for name in book}


def unlike(book):
    """The unlike right lights and the unlike left lights, ascending."""
    return [sorted({both[side] for both in lights_of_text(str(book)).values()}) for side in (0, 1)]


@lru_cache(maxsize=None)
def states_of_text(text):
    """For each state of the book with a text the names of which both lights are passed in it."""
    book = Book.read(text)
    rights, lefts = unlike(book)
    known = {name: (rights.index(right), lefts.index(left)) for name, (right, left) in lights_of_text(text).items()}
    return {(i, j): frozenset(name for name, (right, left) in known.items() if right < i and left < j)
            for i in range(len(rights) + 1) for j in range(len(lefts) + 1)}


@lru_cache(maxsize=None)
def weaves(rights, lefts):
    """All rows of moves that pass so many lights of either side."""
    if rights == lefts == 0:
        return ("",)
    found = []
    for letter, i, j in (("u", 1, 0), ("w", 0, 1), ("b", 1, 1)):
        if i <= rights and j <= lefts:
            found += [letter + more for more in weaves(rights - i, lefts - j)]
    return tuple(found)


def weaves_of(book):
    return weaves(*map(len, unlike(book)))


def seen_in(book, state):
    """The names of which both lights are passed in a state."""
    return states_of_text(str(book))[state]


def order_by_moves(book, moves):
    """The seen order of a weave: what is seen anew with each move."""
    states = states_of_text(str(book))
    found, state = [], (0, 0)
    for move in moves:
        after = (state[0] + (move != "w"), state[1] + (move != "u"))
        if states[after] != states[state]:
            found.append(tuple(sorted(states[after] - states[state])))
        state = after
    return tuple(found)


def orders_of(book):
    """All seen orders: for each the weaves by which it is seen."""
    return orders_of_text(str(book))


@lru_cache(maxsize=None)
def orders_of_text(text):
    book, found = Book.read(text), {}
    for moves in weaves_of(book):
        found.setdefault(order_by_moves(book, moves), []).append(moves)
    return found


def fits(book, value):
    return type(value) is Weave and [value.moves.count("u") + value.moves.count("b"), value.moves.count("w") + value.moves.count("b")] == [len(some) for some in unlike(book)]


def plain(order):
    return tuple(tuple(sorted(lot)) for lot in order)


def is_state(book, value):
    rights, lefts = unlike(book)
    return type(value) is tuple and len(value) == 2 and is_index(value[0], len(rights) + 1) and is_index(value[1], len(lefts) + 1)


def keeps(lots, cuts, before, after):
    """Whether a move from what is seen before to what is seen after keeps lots and cuts: triples (one, other, sign)."""
    fresh = after - before
    heads = [frozenset().union(*lots[:many]) for many in range(len(lots) + 1)]
    if not heads[-1] <= before:
        if before not in heads[:-1] or (fresh and fresh != set(lots[heads.index(before)])):
            return False
    for one, other, sign in cuts:
        if sign == 1 and other in fresh and one not in before:
            return False
        if sign == -1 and one in fresh and other not in before:
            return False
        if sign == 0 and (one in fresh) != (other in fresh):
            return False
    return True


def are_shut(book, lots, cuts, states):
    rights, lefts = unlike(book)
    last = (len(rights), len(lefts))
    if type(states) is not tuple or not all(is_state(book, state) for state in states) or len(set(states)) != len(states):
        return False
    if (0, 0) not in states or last in states:
        return False
    for i, j in states:
        for after in ((i + 1, j), (i, j + 1), (i + 1, j + 1)):
            if after[0] <= last[0] and after[1] <= last[1] and after not in states and keeps(lots, cuts, seen_in(book, (i, j)), seen_in(book, after)):
                return False
    return True


def is_seen(book, order, value):
    if type(value) is Unseen:
        return are_shut(book, plain(order), [], value.states)
    return type(value) is SeenBy and fits(book, value.weave) and order_by_moves(book, value.weave.moves) == plain(order)


def row_sign(order, row):
    lots = {name: at for at, lot in enumerate(order) for name in lot}
    return sign_of(lots[row.other] - lots[row.one])


def truth(order, saying):
    return settled(saying.parts, {number: holds(row.kind, row_sign(order, row)) for number, row in enumerate(saying.rows)})


def is_tree(book, saying, tree, lots, cuts, aim):
    """Whether a tree is right: cuts has the signs of the cut rows."""
    if tree is None:
        return settled(saying.parts, {number: holds(saying.rows[number].kind, sign) for number, sign in cuts.items()}) is aim
    if type(tree) is not tuple or len(tree) < 2 or type(tree[0]) is not str:
        return False
    if tree[0] == "nobody":
        told = [(saying.rows[number].one, saying.rows[number].other, sign) for number, sign in cuts.items()]
        return len(tree) == 2 and are_shut(book, lots, told, tree[1])
    if tree[0] != "cut" or len(tree) != 5 or not is_index(tree[1], len(saying.rows)) or tree[1] in cuts:
        return False
    return all(is_tree(book, saying, below, lots, {**cuts, tree[1]: sign}, aim) for sign, below in zip((1, 0, -1), tree[2:]))


def is_eye_word(book, saying, begun, value):
    if type(value) in (Always, Never):
        return is_tree(book, saying, value.tree, plain(begun), {}, type(value) is Always)
    if type(value) is not Open or not fits(book, value.one) or not fits(book, value.other):
        return False
    orders = [order_by_moves(book, weave.moves) for weave in (value.one, value.other)]
    return all(order[:len(begun)] == plain(begun) for order in orders) and [truth(order, saying) for order in orders] == [True, False]


def some_roads(most=5):
    """Books on a road: lights that are one, all apart, one behind another, two lights that cross, one happening."""
    source = random.Random(150)
    found = [THREE, CROSSED, Book(1, {"a": (7, [Ratio(1, 2)])}), Book(1, {"a": (0, [0]), "b": (1, [1]), "c": (1, [-1]), "d": (2, [0])})]
    for many in range(2, most + 1):
        found.append(Book(1, {f"n{at}": (0, [at]) for at in range(many)}))
        found.append(Book(1, {f"n{at}": (at, [0]) for at in range(many)}))
        found += [random_road(source, many, spread) for spread in (1, 2, 4, 9) if many < 3 or spread > 1]
    return found


def weak_orders(names):
    """All orders of some names."""
    if not names:
        return [()]
    found = []
    for bits in range(1, 2 ** len(names)):
        lot = tuple(name for at, name in enumerate(names) if bits >> at & 1)
        found += [(lot, *more) for more in weak_orders([name for name in names if name not in lot])]
    return found
