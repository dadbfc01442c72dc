"""Point 15, its first paragraph and first fact, and whosefirst/turns.py."""

import random
from fractions import Fraction
from itertools import combinations, permutations

from helpers import Case, no_lists, no_names, no_values
from own import exact, is_pace, worth
from test_called import some_paces
from test_flats import own_order, weak_orders
from test_moved import some_books
from whosefirst.books import Book
from whosefirst.check_orders import shows_called
from whosefirst.errors import BadBook, BadOrder, BadPace, Twice, Unlike
from whosefirst.orders import Called
from whosefirst.paces import Pace
from whosefirst.ratios import Ratio
from whosefirst.spans import Span
from whosefirst.turns import is_between, turned_pairs, way_between

THREE = Book(1, {"a": (0, [0]), "b": (1, [3]), "c": (2, [1])})
EARLY, LATE = [["a"], ["c"], ["b"]], [["b"], ["a"], ["c"]]


def way_of(order, one, other):
    lots = {name: at for at, lot in enumerate(order) for name in lot}
    return (lots[other] > lots[one]) - (lots[other] < lots[one])


def share_of(one, other, pace):
    """Which share of the way between two unlike paces a pace is, None if it is none."""
    shares = set()
    for begin, end, part in zip(one.parts, other.parts, pace.parts):
        if begin == end:
            if part != begin:
                return None
        else:
            shares.add(exact(part - begin) / exact(end - begin))
    share = shares.pop()
    return share if not shares and 0 <= share <= 1 else None


class Orders(Case):

    def test_turned_pairs(self):
        orders = weak_orders(("a", "b", "c", "d"))
        source = random.Random(60)
        for _ in range(300):
            one, other = source.choice(orders), source.choice(orders)
            due = tuple(pair for pair in combinations("abcd", 2) if way_of(one, *pair) != way_of(other, *pair))
            self.assertEqual(turned_pairs(one, other), due)
            self.assertEqual(turned_pairs(other=[list(lot)[::-1] for lot in one], one=other), due)
        self.assertEqual(turned_pairs(EARLY, LATE), (("a", "b"), ("b", "c")))
        self.assertEqual([turned_pairs([], ()), turned_pairs([["a"]], [("a",)]), turned_pairs([["b", "a"]], [["a"], ["b"]])], [(), (), (("a", "b"),)])

    def test_is_between(self):
        orders = weak_orders(("a", "b", "c"))
        seen = set()
        for one in orders:
            for other in orders:
                for third in orders:
                    due = True
                    for pair in combinations("abc", 2):
                        first, second, now = way_of(one, *pair), way_of(other, *pair), way_of(third, *pair)
                        due = due and (now in (first, second) or {first, second} == {1, -1})
                    self.assertIs(is_between(one, other, third), due)
                    seen.add(due)
        self.assertEqual(seen, {True, False})
        self.assertIs(is_between(third=[["a"], ["b"], ["c"]], other=LATE, one=EARLY), True)
        self.assertIs(is_between(EARLY, LATE, [["c"], ["a", "b"]]), False)
        self.assertIs(is_between([["a", "b"]], [["a"], ["b"]], [["b"], ["a"]]), False)
        self.assertIs(is_between([["a", "b"]], [["a"], ["b"]], [["b", "a"]]), True)
        self.assertIs(is_between([], [], []), True)

    def test_names_of_any_book(self):
        self.assertEqual(turned_pairs([["zz9", "q"]], [["q"], ["zz9"]]), (("q", "zz9"),))

    def test_wrong_orders(self):
        good = [["a"], ["b"]]
        calls = [(turned_pairs, ("one", "other")), (is_between, ("one", "other", "third"))]
        for call, parts in calls:
            for at, part in enumerate(parts):
                def ask(value):
                    return call(*[good] * at, *[value] * (len(parts) - at))
                self.refuses_each(BadOrder(part), ask, no_lists())
                self.refuses_each(BadOrder(part), lambda value: ask([["a", "a"], value]), [*no_lists(), [], ()])
                self.refuses_each(BadOrder(part), lambda value: ask([["a", "a"], ["b", value]]), no_names())
                self.refuses(Twice("b"), ask, [["a", "b"], ["c"], ["b", "a"]])
                for order in ([["a"]], [["a"], ["c"]], [["a"], ["b"], ["c"]], []):
                    if at:
                        self.refuses(Unlike("names"), ask, order)
        self.refuses(Twice("a"), turned_pairs, [["a"], ["a"]], None)
        self.refuses(BadOrder("other"), is_between, [["a"], ["b"]], [["a"], []], [["c", "c"]])
        self.refuses(Twice("c"), is_between, [["a"]], [["c"], ["c"]], None)
        self.refuses(BadOrder("third"), is_between, [["a"]], [["b"]], [[]])
        self.refuses(Unlike("names"), is_between, good, good, [["a"]])
        self.refuses(Unlike("names"), is_between, good, [["a"]], good)


class Ways(Case):

    def is_told_right(self, book, one, other, way):
        """The orders come as the critical shares of the way tell, each once, with a pace of the way, in order."""
        shares = {Fraction(0), Fraction(1)}
        for pair in combinations(book.names, 2):
            first, last = worth(book, one, Span.between(*pair)), worth(book, other, Span.between(*pair))
            if first != last and 0 < first / (first - last) < 1:
                shares.add(first / (first - last))
        shares = sorted(shares)
        shares = sorted([*shares, *[(share + more) / 2 for share, more in zip(shares, shares[1:])]])
        due = []
        for share in shares:
            order = own_order(book, one.mixed(other, Ratio(share.numerator, share.denominator)))
            if not due or due[-1] != order:
                due.append(order)
        self.assertEqual([called.order for called in way], due)
        self.assertEqual(len(set(due)), len(due))
        places = []
        for called in way:
            self.assertIs(type(called), Called)
            self.assertTrue(is_pace(book, called.pace))
            self.assertEqual(own_order(book, called.pace), called.order)
            self.assertIs(shows_called(book, called), True)
            places.append(0 if one == other else share_of(one, other, called.pace))
        self.assertNotIn(None, places)
        self.assertEqual(places, sorted(places))

    def test_ways(self):
        for book in some_books():
            paces = some_paces(book.axes)
            for one, other in permutations(paces[:6], 2):
                way = way_between(book, one, other)
                self.is_told_right(book, one, other, way)
                self.assertEqual([called.order for called in way_between(book, other, one)], [called.order for called in way[::-1]])

    def test_each_order_is_between_the_ends(self):
        for book in [book for book in some_books() if len(book) == 4]:
            one, other = some_paces(book.axes)[1:3]
            way = way_between(book, one, other)
            for called in way:
                self.assertIs(is_between(way[0].order, way[-1].order, called.order), True)

    def test_equal_paces(self):
        for book in some_books():
            for pace in some_paces(book.axes)[:4]:
                way = way_between(book, pace, Pace(list(pace.parts)))
                self.assertEqual([(called.order, called.pace) for called in way], [(own_order(book, pace), pace)])

    def test_ends_at_which_pairs_are_level(self):
        third, half = Pace([Ratio(1, 3)]), Pace([Ratio(-1, 2)])
        way = way_between(THREE, third, half)
        self.assertEqual([called.order for called in way], [(("a", "b"), ("c",)), (("a",), ("b",), ("c",)), (("a",), ("b", "c"))])
        self.assertEqual([way[0].pace, way[-1].pace], [third, half])
        self.assertEqual(len(way_between(other=Pace([Ratio(-2, 3)]), one=Pace([Ratio(1, 2)]), book=THREE)), 5)

    def test_one_happening_and_eight(self):
        book = Book(2, {"a": (0, [0, 0])})
        self.assertEqual([called.order for called in way_between(book, Pace([0, 0]), Pace([0, Ratio(1, 2)]))], [(("a",),)])
        book = Book(3, {f"n{at}": (0, [at, at * at, 1]) for at in range(8)})
        one, other = Pace([Ratio(1, 2), Ratio(-1, 9), 0]), Pace([Ratio(-1, 2), Ratio(1, 7), 0])
        self.is_told_right(book, one, other, way_between(book, one, other))

    def test_wrong_books_and_paces(self):
        self.refuses_each(BadBook("book"), lambda value: way_between(value, None, None), no_values())
        self.refuses_each(BadPace("one"), lambda value: way_between(THREE, value, None), no_values())
        self.refuses_each(BadPace("other"), lambda value: way_between(THREE, Pace([0, 0]), value), no_values())
        self.refuses(Unlike("axes"), way_between, THREE, Pace([0, 0]), Pace([0]))
        self.refuses(Unlike("axes"), way_between, THREE, Pace([0]), Pace([0, 0]))
        self.refuses(Unlike("axes"), way_between, THREE, Pace([0, 0]), Pace([0, 0]))

    def test_equal_calls_have_equal_answers(self):
        for book in some_books():
            one, other = some_paces(book.axes)[:2]
            self.assertEqual(way_between(book, one, other), way_between(Book.read(str(book)), Pace.read(str(one)), Pace.read(str(other))))
            self.assertIs(type(way_between(book, one, other)), tuple)
