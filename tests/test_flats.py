"""Point 14, whosefirst/flats.py and whosefirst/orders.py, and whosefirst/check_orders.py for their papers."""

import random
from itertools import combinations, permutations

from bent import bent_papers
from helpers import Case, no_lists, no_names, no_values
from own import is_caller, is_pace, worth
from test_moved import some_books
from whosefirst.books import Book
from whosefirst.callers import Somebody, find_caller, order_rows
from whosefirst.check_orders import shows_called, shows_flat, shows_order
from whosefirst.errors import BadBook, BadOrder, NoHappening, TooMany, Twice
from whosefirst.flats import Flat, flats_of, orders_count
from whosefirst.orders import Called, called_orders, caller_of
from whosefirst.paces import Pace
from whosefirst.papers import Paper
from whosefirst.ratios import Ratio
from whosefirst.spans import Span

THREE = Book(1, {"a": (0, [0]), "b": (1, [3]), "c": (2, [1])})
FLASHES = Book(2, {"a": (0, [0, 0]), "b": (0, [1, 0]), "c": (0, [0, 1])})
ROOM = Book(3, {"o": (0, [0, 0, 0]), "x": (0, [1, 0, 0]), "y": (0, [0, 1, 0]), "z": (0, [0, 0, 1])})
MOST = {1: 8, 2: 5, 3: 4}


def few_books():
    """Books of up to as many happenings as all orders are told of, with many and few that are apart."""
    source = random.Random(50)
    books = [THREE, FLASHES, ROOM]
    for axes, sizes in ((1, (1, 2, 3, 5)), (2, (1, 2, 3, 4, 4, 4)), (3, (1, 2, 3, 4, 4))):
        for many in sizes:
            for width in (1, 4, 9):
                spots = {f"n{at}": (Ratio(source.randint(-width, width), 2), [at, *[source.randint(-4, 4) for _ in range(axes - 1)]]) for at in range(many)}
                books.append(Book(axes, spots))
    # Four corners of a square, all level at rest; five on a line, as if on a road; a happening in the middle of two others.
    books.append(Book(2, {"a": (0, [0, 0]), "b": (0, [1, 0]), "c": (0, [0, 1]), "d": (0, [1, 1])}))
    books.append(Book(2, {f"n{at}": (0, [at, 2 * at]) for at in range(4)}))
    books.append(Book(3, {"a": (0, [0, 0, 0]), "b": (1, [2, 0, 0]), "c": (Ratio(1, 2), [1, 0, 0]), "d": (0, [0, 3, 0])}))
    return books


def weak_orders(names):
    """All orders of some names."""
    if not names:
        return [()]
    found = []
    for many in range(1, len(names) + 1):
        for lot in combinations(names, many):
            found += [(lot, *rest) for rest in weak_orders(tuple(name for name in names if name not in lot))]
    return found


def own_pairs(book, pace):
    return tuple((one, other) for one, other in combinations(book.names, 2) if worth(book, pace, Span.between(one, other)) == 0)


def own_order(book, pace):
    lots = {}
    for name in book:
        lots.setdefault(worth(book, pace, Span.between(book.names[0], name)), []).append(name)
    return tuple(tuple(lots[number]) for number in sorted(lots))


def own_signs(flats):
    """Sign numbers by the rule, from what is known of all flats, sets of pairs."""
    signs = {}
    for flat in sorted(flats, key=len):
        signs[flat] = 1 if not flat else -sum(signs[other] for other in signs if set(other) < set(flat))
    return signs


class Flats(Case):

    def test_all_flats_and_orders_by_asking_every_order(self):
        for book in few_books():
            if len(book) < 5:
                with self.subTest(book=str(book)):
                    due = sorted(order for order in weak_orders(book.names) if find_caller(book, order_rows(order)))
                    self.assertEqual([called.order for called in called_orders(book)], due)
                    level = {tuple(sorted(pair for lot in order for pair in combinations(lot, 2))) for order in due}
                    self.assertEqual([flat.pairs for flat in flats_of(book)], sorted(level))

    def test_flats(self):
        for book in few_books():
            flats = flats_of(book)
            signs = own_signs([flat.pairs for flat in flats])
            self.assertEqual(flats[0].pairs, ())
            self.assertEqual([flat.pairs for flat in flats], sorted(signs))
            for flat in flats:
                self.assertIs(type(flat), Flat)
                self.assertIs(type(flat.number), int)
                self.assertEqual(flat.number, signs[flat.pairs])
                self.assertTrue(is_pace(book, flat.pace))
                self.assertEqual(own_pairs(book, flat.pace), flat.pairs)
                self.assertIs(shows_flat(book, flat), True)

    def test_orders(self):
        for book in few_books():
            called = called_orders(book)
            self.assertEqual([one.order for one in called], sorted({one.order for one in called}))
            for one in called:
                self.assertIs(type(one), Called)
                self.assertTrue(is_pace(book, one.pace))
                self.assertEqual(own_order(book, one.pace), one.order)
                self.assertIs(shows_called(book, one), True)
            strict = [one for one in called if all(len(lot) == 1 for lot in one.order)]
            self.assertIs(type(orders_count(book)), int)
            self.assertEqual(orders_count(book), len(strict))
            self.assertEqual(sum(abs(flat.number) for flat in flats_of(book)), len(strict))

    def test_strict_orders_of_five_in_a_plane(self):
        book = Book(2, {"a": (0, [0, 0]), "b": (1, [4, 1]), "c": (Ratio(1, 2), [-1, 5]), "d": (-1, [3, -3]), "e": (0, [-4, -2])})
        due = [order for order in permutations(book.names) if find_caller(book, order_rows([[name] for name in order]))]
        self.assertEqual(orders_count(book), len(due))
        found = [tuple(lot[0] for lot in one.order) for one in called_orders(book) if len(one.order) == 5]
        self.assertEqual(found, due)

    def test_eight_on_a_road(self):
        book = Book(1, {f"n{at}": (at * at % 5, [7 * at]) for at in range(8)})
        flats = flats_of(book)
        self.assertEqual(orders_count(book), len(flats))
        self.assertEqual(len(called_orders(book)), 2 * len(flats) - 1)
        self.assertEqual({flat.number for flat in flats[1:]}, {-1})

    def test_one_happening_and_none_apart(self):
        for axes in (1, 2, 3):
            for spots in ({"a": (5, [1] * axes)}, {f"n{at}": (at, [0] * axes) for at in range(4)}):
                book = Book(axes, spots)
                self.assertEqual([(flat.pairs, flat.number) for flat in flats_of(book)], [((), 1)])
                self.assertEqual(orders_count(book), 1)
                self.assertEqual([one.order for one in called_orders(book)], [tuple((name,) for name in book)])

    def test_by_hand(self):
        self.assertEqual([(flat.pairs, flat.number) for flat in flats_of(THREE)], [((), 1), ((("a", "b"),), -1), ((("b", "c"),), -1)])
        self.assertEqual([flat.pace.parts for flat in flats_of(THREE)][1:], [(Ratio(1, 3),), (Ratio(-1, 2),)])
        self.assertEqual(flats_of(FLASHES)[2].pairs, (("a", "b"), ("a", "c"), ("b", "c")))
        self.assertEqual([flat.number for flat in flats_of(FLASHES)], [1, -1, 2, -1, -1])
        self.assertEqual([orders_count(THREE), orders_count(FLASHES), orders_count(ROOM)], [3, 6, 24])
        self.assertEqual([flat.number for flat in flats_of(ROOM) if len(flat.pairs) == 6], [-6])
        self.assertEqual([len(called_orders(book)) for book in (THREE, FLASHES, ROOM)], [5, 13, 75])

    def test_more_happenings_than_are_told_of(self):
        for axes, most in MOST.items():
            for many in (most, most + 1):
                if many <= 8:
                    book = Book(axes, {f"n{at}": (at, [0] * axes) for at in range(many)})
                    for call in (flats_of, orders_count, called_orders):
                        if many == most:
                            self.assertTrue(call(book))
                        else:
                            self.refuses(TooMany("happenings", most), call, book)

    def test_wrong_books(self):
        for call in (flats_of, orders_count, called_orders, lambda value: caller_of(value, None), lambda value: shows_flat(value, None),
                     lambda value: shows_called(value, None), lambda value: shows_order(value, None, None)):
            self.refuses_each(BadBook("book"), call, no_values())
        self.assertEqual(flats_of(book=THREE), flats_of(Book.read(str(THREE))))
        self.assertEqual(called_orders(book=THREE), called_orders(Book.read(str(THREE))))
        self.assertEqual(orders_count(book=THREE), 3)

    def test_papers(self):
        flat, called = Flat(pace=1, number=2, pairs=[["a", "b"]]), Called(pace=1, order=[["a"]])
        self.assertEqual((flat.word, flat.parts, flat.pairs, flat.number, flat.pace, bool(flat)), ("flat", ((("a", "b"),), 2, 1), (("a", "b"),), 2, 1, True))
        self.assertEqual((called.word, called.parts, called.order, called.pace, bool(called)), ("called", ((("a",),), 1), (("a",),), 1, True))
        self.differs(Called((), 1), [Paper("called", (), 1), Flat((), 1, 1), Called((), 2)])


class Callers(Case):

    def test_caller_of(self):
        for book in few_books():
            for order in weak_orders(book.names[:3]):
                paper = caller_of(book, order)
                self.assertEqual(paper, find_caller(book, order_rows(order)))
                self.assertTrue(is_caller(book, order_rows(order), paper))
                self.assertIs(shows_order(book, order, paper), True)
                if paper:
                    self.assertEqual([[name for name in lot if name in book.names[:3]] for lot in own_order(book, paper.pace) if set(lot) & set(book.names[:3])],
                                     [sorted(lot) for lot in order])
        self.assertEqual(caller_of(order=(), book=THREE).word, "somebody")
        self.assertEqual(caller_of(THREE, [["c", "b"]]).word, "somebody")

    def test_wrong_orders(self):
        for call in (caller_of, lambda book, order: shows_order(book, order, None)):
            self.refuses_each(BadOrder("order"), lambda value: call(THREE, value), no_lists())
            self.refuses_each(BadOrder("order"), lambda value: call(THREE, [["z"], value]), [*no_lists(), [], ()])
            self.refuses_each(BadOrder("order"), lambda value: call(THREE, [["a", "a"], ["z", value]]), no_names())
            self.refuses(NoHappening("z"), call, THREE, [["a", "a"], ["b", "z"], ["y"]])
            self.refuses(Twice("b"), call, THREE, [["b", "a"], ["b", "a"]])
            self.refuses(Twice("a"), call, THREE, [["a", "b"], ["a", "b"]])

    def test_bent_callers(self):
        for book in (THREE, FLASHES, ROOM):
            for order in weak_orders(book.names[:3]):
                for paper in bent_papers(caller_of(book, order)):
                    self.assertIs(shows_order(book, order, paper), is_caller(book, order_rows(order), paper))


class Shown(Case):

    def is_flat(self, book, value):
        return is_pace(book, value.pace) and type(value.number) is int and value.pairs == own_pairs(book, value.pace)

    def is_called(self, book, value):
        return is_pace(book, value.pace) and value.order == own_order(book, value.pace)

    def test_bent_flats(self):
        looked = {True: 0, False: 0}
        for book in few_books()[::2]:
            for flat in flats_of(book)[:4]:
                for paper in bent_papers(flat)[::2]:
                    due = self.is_flat(book, paper)
                    self.assertIs(shows_flat(book, paper), due)
                    looked[due] += 1
        self.assertGreater(min(looked.values()), 100)

    def test_bent_orders(self):
        looked = {True: 0, False: 0}
        for book in few_books()[::2]:
            for called in called_orders(book)[:4]:
                for paper in bent_papers(called)[::2]:
                    due = self.is_called(book, paper)
                    self.assertIs(shows_called(book, paper), due)
                    looked[due] += 1
        self.assertGreater(min(looked.values()), 10)

    def test_by_hand(self):
        third = Pace([Ratio(1, 3)])
        for number in (-1, 0, 5, 10 ** 40):
            self.assertIs(shows_flat(THREE, Flat([["a", "b"]], number, third)), True)
        for number in (True, Ratio(-1), None, "1"):
            self.assertIs(shows_flat(THREE, Flat([["a", "b"]], number, third)), False)
        for pairs in ([["b", "a"]], [], [["a", "b"], ["a", "b"]], [["a", "c"]], [["a", "b", "c"]], ["ab"], "ab", None, [None]):
            self.assertIs(shows_flat(THREE, Flat(pairs, -1, third)), False)
        rest = Pace([0, 0])
        self.assertIs(shows_flat(FLASHES, Flat([("a", "b"), ("a", "c"), ("b", "c")], 2, rest)), True)
        self.assertIs(shows_flat(FLASHES, Flat([("a", "c"), ("a", "b"), ("b", "c")], 2, rest)), False)
        self.assertIs(shows_called(FLASHES, Called([["a", "b", "c"]], rest)), True)
        self.assertIs(shows_called(FLASHES, Called([["a", "c", "b"]], rest)), False)
        self.assertIs(shows_called(FLASHES, Called([["a", "b"]], rest)), False)
        self.assertIs(shows_called(FLASHES, Called([["a", "b", "c"]], Pace([0]))), False)

    def test_any_values(self):
        third, rest = Pace([Ratio(1, 3)]), Pace([0])
        for value in no_values():
            for paper in (value, Flat([[value, "b"]], 1, third), Flat([value], 1, third), Flat(value, 1, third), Flat((), 1, value)):
                if not isinstance(value, str) or value != "a":
                    self.assertIs(shows_flat(THREE, paper), False)
            for paper in (value, Called(value, rest), Called([["a"], ["b"], value], rest), Called([["a"], ["b"], [value]], rest), Called([["a"], ["b"], ["c"]], value)):
                self.assertIs(shows_called(THREE, paper), False)
            if type(value) not in (int,):
                self.assertIs(shows_flat(THREE, Flat((), value, rest)), False)
        for value in (Paper("flat", (), 1, Pace([0])), Called((), Pace([0])), Somebody(Pace([0]))):
            self.assertIs(shows_flat(THREE, value), False)
        self.assertIs(shows_called(THREE, Paper("called", (("a",), ("b",), ("c",)), Pace([0]))), False)
        self.assertIs(shows_flat(value=Flat((), 7, Pace([0])), book=THREE), True)
        self.assertIs(shows_called(value=Called([["a"], ["b"], ["c"]], Pace([0])), book=THREE), True)
        self.assertIs(shows_order(value=Somebody(Pace([0])), order=[["a"], ["b"]], book=THREE), True)

    def test_beyond_the_bounds(self):
        for book in [book for book in some_books() if len(book) == 8]:
            rest = Pace.rest(book.axes)
            self.assertIs(shows_flat(book, Flat(own_pairs(book, rest), 0, rest)), True)
            self.assertIs(shows_called(book, Called(own_order(book, rest), rest)), True)
            self.assertIs(shows_order(book, own_order(book, rest), Somebody(rest)), True)
