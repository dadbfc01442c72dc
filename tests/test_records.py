"""Points 14 and 15, whosefirst/records.py, and whosefirst/check_orders.py for its paper."""

import random
from itertools import combinations, permutations

from bent import bent_papers
from helpers import Case, no_lists, no_names, no_values, short
from own import is_index, is_nobody, is_pace, worth
from test_flats import few_books, own_order, weak_orders
from test_moved import some_books
from whosefirst.books import Book
from whosefirst.callers import find_caller
from whosefirst.check_orders import shows_records
from whosefirst.errors import BadBook, BadOrder, TooMany, Twice, Unlike
from whosefirst.grouping import Sharing
from whosefirst.orders import called_orders
from whosefirst.paces import Pace
from whosefirst.papers import Paper
from whosefirst.ratios import Ratio
from whosefirst.records import Records, fewest_records, reach_read
from whosefirst.rows import Row
from whosefirst.spans import Span
from whosefirst.telling import apart_pairs, reached_pairs

THREE = Book(1, {"a": (0, [0]), "b": (1, [3]), "c": (2, [1])})
FLASHES = Book(2, {"a": (0, [0, 0]), "b": (0, [1, 0]), "c": (0, [0, 1])})
FOUR = Book(2, {"a": (0, [0, 0]), "b": (27, [-5, 30]), "c": (57, [55, 30]), "d": (84, [50, 0])})
EARLY, LATE = [["a"], ["c"], ["b"]], [["b"], ["a"], ["c"]]


def told_books():
    """Books of at most 4 happenings, 8 on a road, some of which need three records or four."""
    source = random.Random(70)
    books = [book for book in few_books() if len(book) < 5]
    books += [Book(1, {f"n{at}": (source.randint(-9, 9), [3 * at]) for at in range(8)}), Book(1, {f"n{at}": (0, [at]) for at in range(8)}), FOUR]
    books += [Book.read("2 a 0 -6 11 / b 3 0 -7 / c -6 0 10 / d -3 -6 -8"), Book.read("3 a -7 -8 -10 -9 / b -7 9 -4 1 / c 5 -5 -5 12 / d 6 1 3 -10"),
              Book.read("2 a -7 -6 -7 / b 5 1 5 / c -3 12 4 / d 7 10 -7"), Book.read("2 a -1 3 -1 / b -2 -2 2 / c -1 -2 0 / d -1 -3 1"),
              Book.read("3 a 5 8 -2 11 / b 6 -2 5 6 / c 2 -2 3 10 / d 0 5 -6 -7"), Book.read("3 a 4 -6 -1 2 / b 0 -1 0 4 / c 6 0 -6 3 / d 1 -6 -4 4")]
    while len(books) < 69:
        axes = source.choice([2, 3])
        book = Book(axes, {f"n{at}": (source.randint(-60, 60), [source.randint(-60, 60) for _ in range(axes - 1)] + [90 * at]) for at in range(4)})
        if len(apart_pairs(book)) == 6:
            books.append(book)
    return books


def own_demands(book):
    return [span for one, other in apart_pairs(book) for span in (Span.between(one, other), Span.between(other, one))]


def own_read(orders):
    lots = [{name: at for at, lot in enumerate(order) for name in lot} for order in orders]
    return tuple(pair for pair in permutations(sorted(lots[0]), 2) if all(places[pair[0]] < places[pair[1]] for places in lots))


def is_own_tree(book, demands, tree, groups, begun):
    if type(tree) is not tuple or len(tree) != 3 or type(tree[0]) is not str:
        return False
    if tree[0] == "nobody":
        return is_index(tree[1], len(begun)) and is_nobody(book, [(demands[number], ">=") for number in begun[tree[1]]], tree[2])
    if tree[0] != "put" or not is_index(tree[1], len(demands)) or any(tree[1] in group for group in begun):
        return False
    ways = [begun[:at] + [[*group, tree[1]]] + begun[at + 1:] for at, group in enumerate(begun)]
    if len(begun) < groups:
        ways.append([*begun, [tree[1]]])
    if type(tree[2]) is not tuple or len(tree[2]) != len(ways):
        return False
    return all(is_own_tree(book, demands, below, groups, way) for below, way in zip(tree[2], ways))


def is_own_records(book, value):
    if type(value) is not Records or type(value.paces) is not tuple or not all(is_pace(book, pace) for pace in value.paces):
        return False
    if len(book) == 1 or not value.paces:
        return len(book) == 1 and value.paces == () and value.tree is None
    if own_read([own_order(book, pace) for pace in value.paces]) != reached_pairs(book):
        return False
    if len(value.paces) == 1:
        return value.tree is None
    return is_own_tree(book, own_demands(book), value.tree, len(value.paces) - 1, [])


class Naive(Sharing):
    """Puts demands as they are numbered: so trees grow wide, and groups begun early are put into late."""

    def next_demand(self, begun):
        put = [number for group in begun for number in group]
        return min(number for number in range(len(self.steps)) if number not in put)


class ReachRead(Case):

    def test_reach_read(self):
        orders = weak_orders(("a", "b", "c"))
        source = random.Random(71)
        for _ in range(200):
            records = [source.choice(orders) for _ in range(source.randint(1, 4))]
            self.assertEqual(reach_read(records), own_read(records))
            self.assertEqual(reach_read(orders=tuple([list(lot)[::-1] for lot in order] for order in records)), own_read(records))
        self.assertEqual([reach_read([EARLY, LATE]), reach_read([EARLY]), reach_read([[]]), reach_read([[["a"]], (("a",),)])],
                         [(("a", "c"),), (("a", "b"), ("a", "c"), ("c", "b")), (), ()])

    def test_all_records_of_a_book_tell_what_reaches_what(self):
        for book in told_books():
            if len(book) > 1:
                paces = fewest_records(book).paces
                self.assertEqual(reach_read([own_order(book, pace) for pace in paces]), reached_pairs(book))

    def test_wrong_orders(self):
        self.refuses_each(BadOrder("orders"), reach_read, [*no_lists(), [], ()])
        self.refuses_each(BadOrder("orders"), lambda value: reach_read([[["a"], ["a"]], value]), no_lists())
        self.refuses_each(BadOrder("orders"), lambda value: reach_read([[["a"], ["a"]], [["a"], value]]), [*no_lists(), [], ()])
        self.refuses_each(BadOrder("orders"), lambda value: reach_read([[["a"], ["a"]], [["a", value]]]), no_names())
        self.refuses(Twice("c"), reach_read, [[["a"], ["b"]], [["b"], ["c", "c"], ["b"]], [["a"], ["a"]]])
        self.refuses(Twice("a"), reach_read, [[["b"]], [["c"]], [["a"], ["a"]]])
        self.refuses(Unlike("names"), reach_read, [[["a"]], [["b"]]])
        self.refuses(Unlike("names"), reach_read, [EARLY, LATE, EARLY[:2]])
        self.refuses(Unlike("names"), reach_read, [[], [["a"]]])


class Fewest(Case):

    def test_books(self):
        seen = set()
        for book in told_books():
            with self.subTest(book=str(book)):
                paper = fewest_records(book)
                self.assertTrue(is_own_records(book, paper))
                self.assertIs(shows_records(book, paper), True)
                self.assertEqual(fewest_records(book=Book.read(str(book))), paper)
                self.has_ratios_for_weights(paper.tree)
                seen.add((book.axes, len(paper.paces)))
        self.assertTrue({(1, 0), (1, 1), (1, 2), (2, 0), (2, 1), (2, 2), (2, 3), (2, 4), (3, 0), (3, 1), (3, 2), (3, 3)} <= seen)

    def has_ratios_for_weights(self, tree):
        if tree is not None and tree[0] == "nobody":
            self.are_all_ratios(tree[2])
        for below in tree[2] if tree is not None and tree[0] == "put" else ():
            self.has_ratios_for_weights(below)

    def test_fewer_groups_do_not_do(self):
        """Each way to share out the demands among fewer groups has one that nobody keeps: all ways are tried."""
        for book in [book for book in told_books() if len(book) == 3] + [FOUR]:
            many = len(fewest_records(book).paces)
            demands = own_demands(book)
            fits = {}

            def is_kept(group):
                if group not in fits:
                    fits[group] = bool(find_caller(book, [Row(demands[number], ">=") for number in group]))
                return fits[group]

            def can_share(number, groups):
                if number == len(demands):
                    return True
                grown = [groups[:at] + [(*group, number)] + groups[at + 1:] for at, group in enumerate(groups) if is_kept((*group, number))]
                grown += [[*groups, (number,)]] if len(groups) < many - 1 else []
                return any(can_share(number + 1, way) for way in grown)

            self.assertFalse(demands and many > 1 and can_share(0, []))

    def test_on_a_road_two_do_and_one_if_one_pace_calls_all_apart_pairs_level(self):
        for book in [book for book in told_books() if book.axes == 1 and len(book) > 1]:
            ends = {worth(book, Pace([0]), Span.between(*pair)) / (book.spot_of(pair[1]).place[0] - book.spot_of(pair[0]).place[0]).top
                    if (book.spot_of(pair[1]).place[0] - book.spot_of(pair[0]).place[0]).bottom == 1 else None for pair in apart_pairs(book)}
            self.assertNotIn(None, ends)
            self.assertEqual(len(fewest_records(book).paces), 1 if len(ends) < 2 else 2)

    def test_wide_trees(self):
        sizes = []
        for book in [book for book in told_books() if book.axes > 1 and len(book) == 4]:
            many = len(fewest_records(book).paces)
            if many > 2 or (many == 2 and len(sizes) < 9):
                demands = own_demands(book)
                paces = [called.pace for called in called_orders(book)]
                sets = [{number: True for number, span in enumerate(demands) if worth(book, pace, span) >= 0} for pace in paces]
                tree = Naive([book.step_of(span) for span in demands], book.axes, sets, many - 1).tree_below([])
                paper = Records(fewest_records(book).paces, tree)
                self.assertTrue(is_own_records(book, paper))
                self.assertIs(shows_records(book, paper), True)
                sizes.append(str(tree).count("put"))
        self.assertGreater(max(sizes), 30)

    def test_one_happening_none_apart_by_hand(self):
        for axes in (1, 2, 3):
            self.assertEqual(fewest_records(Book(axes, {"a": (0, [0] * axes)})), Records([], None))
            paper = fewest_records(Book(axes, {f"n{at}": (at, [0] * axes) for at in range(4)}))
            self.assertEqual((len(paper.paces), paper.tree), (1, None))
        self.assertEqual([len(fewest_records(book).paces) for book in (THREE, FLASHES, FOUR)], [2, 1, 4])
        self.assertEqual(fewest_records(FLASHES), Records([Pace([0, 0])], None))

    def test_more_happenings_than_are_told_of(self):
        for axes, most in ((2, 4), (3, 4)):
            book = Book(axes, {f"n{at}": (at, [0] * axes) for at in range(most + 1)})
            self.refuses(TooMany("happenings", most), fewest_records, book)
            self.assertTrue(fewest_records(book.kept(book.names[:most])))
        self.assertTrue(fewest_records(Book(1, {f"n{at}": (at, [0]) for at in range(8)})))

    def test_trees_are_not_deep(self):
        def depth(tree):
            return 1 if tree is None or tree[0] == "nobody" else 2 + max(depth(below) for below in tree[2])
        for book in told_books():
            self.assertLess(depth(fewest_records(book).tree), 30)

    def test_wrong_books(self):
        self.refuses_each(BadBook("book"), fewest_records, no_values())
        self.refuses_each(BadBook("book"), lambda value: shows_records(value, None), no_values())

    def test_paper(self):
        paper = Records(tree=["put", 0, []], paces=[1])
        self.assertEqual((paper.word, paper.parts, paper.paces, paper.tree, bool(paper)), ("records", ((1,), ("put", 0, ())), (1,), ("put", 0, ()), True))
        self.differs(Records([], None), [Paper("records", [], None), Records([1], None), ([], None)])


class Shown(Case):

    def test_bent_papers(self):
        source = random.Random(72)
        looked = {True: 0, False: 0}
        for book in [THREE, FLASHES, FOUR, Book(1, {"a": (0, [0])}), *told_books()[::6]]:
            papers = bent_papers(fewest_records(book))
            for paper in papers if len(papers) < 150 else source.sample(papers, 150):
                due = is_own_records(book, paper)
                with self.subTest(book=str(book), paper=paper.parts):
                    self.assertIs(shows_records(book, paper), due)
                looked[due] += 1
        self.assertGreater(min(looked.values()), 20)

    def test_by_hand(self):
        tree = ("put", 1, [("put", 3, [("nobody", 0, [1, 1])])])
        two = [Pace([Ratio(-2, 3)]), Pace([Ratio(1, 2)])]
        self.assertIs(shows_records(THREE, Records(two, tree)), True)
        self.assertIs(shows_records(value=Records(two[::-1], tree), book=THREE), True)
        for paces, told in ((two, None), (two[:1], None), (two[:1], tree), ([], None), ([], tree), ([Pace([0]), *two], tree), (two + [Pace([0, 0])], tree),
                            ([Pace([0]), Pace([Ratio(1, 2)])], tree), (two, ("put", 1, [("put", 3, [("nobody", 0, [1])])])), (None, tree), (two[0], tree)):
            self.assertIs(shows_records(THREE, Records(paces, told)), False)
        for told in (("put", 3, [("put", 1, [("nobody", 0, [2, 2])])]), ("put", 1, [("put", 0, [("put", 3, [("nobody", 0, [1, 0, 1])])])])):
            self.assertIs(shows_records(THREE, Records(two, told)), True)
        for told in (("put", 1, [("put", 1, [("nobody", 0, [1, 1])])]), ("put", 1, [("put", 0, [("nobody", 0, [1, 1])])]), ("put", 1, []),
                     ("put", 1, [("put", 3, [("nobody", 0, [1, 1])])] * 2), ("put", 1, [("put", 3, [("nobody", 1, [1, 1])])]), ("nobody", 0, []),
                     ("put", 1, [("put", 3, [("nobody", 0, [1, -1])])]), ("put", 4, [("put", 3, [("nobody", 0, [1, 1])])]), ("put", 1, [None]),
                     ("put", True, [("put", 3, [("nobody", 0, [1, 1])])]), ("put", Ratio(1), [("put", 3, [("nobody", 0, [1, 1])])]),
                     ("put", 1, [("put", 3, [("nobody", False, [1, 1])])]), ("put", 1, [("put", 3, [("nobody", 0, [True, True])])])):
            self.assertIs(shows_records(THREE, Records(two, told)), False)

    def test_one_record_for_one_happening_is_one_too_many(self):
        book = Book(2, {"a": (0, [0, 0])})
        self.assertIs(shows_records(book, Records([], None)), True)
        self.assertIs(shows_records(book, Records([Pace([0, 0])], None)), False)
        chain = Book(2, {"a": (0, [0, 0]), "b": (1, [0, 0])})
        self.assertIs(shows_records(chain, Records([Pace([0, 0])], None)), True)
        self.assertIs(shows_records(chain, Records([], None)), False)

    def test_more_than_the_fewest_are_not_right(self):
        for book in (THREE, FOUR, FLASHES):
            paper = fewest_records(book)
            self.assertIs(shows_records(book, Records([*paper.paces, Pace([0] * book.axes)], paper.tree)), False)

    def test_any_values(self):
        two = [Pace([Ratio(-2, 3)]), Pace([Ratio(1, 2)])]
        for value in no_values():
            with self.subTest(value=short(value)):
                for paper in (value, Records(value, None), Records([value, *two], None), Records(two, value), Records(two, ("put", 1, value)),
                              Records(two, ("put", 1, [value])), Records(two, (value, 1, [("put", 3, [("nobody", 0, [1, 1])])])),
                              Records(two, ("put", 1, [("put", 3, [("nobody", 0, value)])])), Records(two, ("put", 1, [("put", 3, [("nobody", 0, [0, value])])]))):
                    self.assertIs(shows_records(THREE, paper), False)
        self.assertIs(shows_records(THREE, Paper("records", two, ("put", 1, [("put", 3, [("nobody", 0, [1, 1])])]))), False)

    def test_beyond_the_bounds(self):
        for book in [book for book in some_books() if len(book) == 8 and book.axes > 1]:
            self.assertIs(shows_records(book, Records([Pace.rest(book.axes)], None)), not apart_pairs(book))
        level = Book(2, {f"n{at}": (0, [at, at * at]) for at in range(8)})
        self.assertIs(shows_records(level, Records([Pace([0, 0])], None)), True)
        self.assertEqual(len(list(combinations(level.names, 2))), len(apart_pairs(level)))
