"""Point 22, whosefirst/seen.py, whosefirst/brought.py, whosefirst/seen_counts.py, whosefirst/resting.py; shows_seen of whosefirst/check_eyes.py."""

import random
from itertools import combinations, permutations

from bent import bent_papers
from helpers import Case, no_integers, no_lists, no_names, no_ratios, no_values, short
from own import exact
from own_eyes import CROSSED, EIGHT, PLANE, THREE, is_seen, lights, order_by_moves, orders_of, some_roads, unlike, weak_orders, weaves_of
from own_tables import random_road
from whosefirst.books import Book
from whosefirst.brought import bringers_of, brought_by, least_bringing
from whosefirst.check_eyes import shows_seen
from whosefirst.errors import BadBook, BadNumber, BadOrder, NoHappening, Twice, Unlike
from whosefirst.eyes import Eye, seen_by
from whosefirst.news import meet_of
from whosefirst.papers import Denial, Paper
from whosefirst.ratios import Ratio
from whosefirst.resting import resting_order, resting_orders
from whosefirst.seen import SeenBy, Unseen, find_eye
from whosefirst.seen_counts import number_seen, seen_count, seen_number
from whosefirst.weaves import Weave

APART = Book(1, {"a": (0, [0]), "b": (0, [1]), "c": (0, [2])})
BEHIND = Book(1, {"a": (0, [0]), "b": (1, [0]), "c": (2, [0])})


def brought(book, names):
    """What some happenings bring, by the greatest of their lights."""
    right, left = (max(lights(book, name)[side] for name in names) for side in (0, 1))
    return tuple(name for name in book if lights(book, name)[0] <= right and lights(book, name)[1] <= left)


class SeenOrders(Case):

    def is_told_right(self, book, order, paper):
        self.assertTrue(is_seen(book, order, paper))
        self.assertIs(shows_seen(book, order, paper), True)
        if not paper:
            self.assertIs(type(paper), Unseen)
            for state in paper.states:
                self.assertEqual([type(state), type(state[0]), type(state[1])], [tuple, int, int])

    def test_all_orders_of_small_books(self):
        words = {}
        for book in some_roads(4):
            seen = orders_of(book)
            for order in weak_orders(book.names):
                paper = find_eye(book, order)
                self.assertEqual(bool(paper), order in seen)
                self.is_told_right(book, order, paper)
                words[paper.word] = words.get(paper.word, 0) + 1
        self.assertGreater(min(words["seenby"], words["unseen"]), 50)

    def test_greater_books(self):
        source = random.Random(160)
        for book in [*some_roads(5), EIGHT, random_road(source, 8, 2), random_road(source, 8, 5)]:
            rights, lefts = unlike(book)
            for _ in range(4):
                moves = list("u" * len(rights) + "w" * len(lefts))
                source.shuffle(moves)
                order = order_by_moves(book, "".join(moves))
                self.assertTrue(find_eye(book, order))
                self.is_told_right(book, order, find_eye(book, order))
                names = list(book.names)
                source.shuffle(names)
                self.is_told_right(book, [[name] for name in names], find_eye(book, [[name] for name in names]))

    def test_by_hand(self):
        self.assertEqual([bool(find_eye(THREE, order)) for order in ([["c"], ["b", "a"]], [["a"], ["b"], ["c"]], [["a", "b"], ["c"]])], [True, False, False])
        self.assertEqual(find_eye(order=(("a",),), book=Book(1, {"a": (0, [0])})).weave.moves in ("uw", "wu", "b"), True)
        # Two lights that cross, with two happenings on each: none is seen alone, but two by two, or in other lots.
        self.assertEqual([order for order in orders_of(CROSSED) if all(len(lot) == 1 for lot in order)], [])
        for order in orders_of(CROSSED):
            self.assertTrue(find_eye(CROSSED, order))

    def test_every_eye_sees_what_some_weave_sees(self):
        for book in some_roads(4):
            for place in (-20, -3, 0, Ratio(1, 3), 2, 17):
                self.assertTrue(find_eye(book, seen_by(book, Eye([(0, place)]))))

    def test_a_strict_order_is_seen_exactly_if_its_first_ones_bring_no_other(self):
        for book in some_roads(5):
            for names in list(permutations(book.names))[::5]:
                due = all(len(brought(book, names[:many])) == many for many in range(1, len(names) + 1))
                self.assertEqual(bool(find_eye(book, [[name] for name in names])), due)

    def test_equal_calls_have_equal_answers(self):
        for book in some_roads(4):
            for order in weak_orders(book.names)[::5]:
                turned = [list(lot[::-1]) for lot in order]
                self.assertEqual(find_eye(Book.read(str(book)), turned), find_eye(book, order))

    def test_wrong_values(self):
        for call in (find_eye, number_seen, lambda book, order: shows_seen(book, order, None)):
            self.refuses_each(BadBook("book"), lambda value: call(value, None), no_values())
            self.refuses_each(BadOrder("order"), lambda value: call(PLANE, value), no_lists())
            for value in [*no_lists(), [], [1], ["A"], [["a"]], [None]]:
                self.refuses(BadOrder("order"), call, PLANE, [["z"], ["a", "a"], value])
            self.refuses(NoHappening("z"), call, PLANE, [["a", "a"], ["z"], ["y"]])
            self.refuses(Twice("a"), call, PLANE, [["a", "b"], ["b"], ["a"]][::-1])
            for order in ([], [["a"]], [["a", "b"]]):
                self.refuses(Unlike("road"), call, PLANE, order)
            for order in ([], [["a"]], [["a", "b"]]):
                self.refuses(Unlike("order"), call, THREE, order)

    def test_papers(self):
        seen, unseen = SeenBy(weave=Weave("b")), Unseen(states=[[0, 0]])
        self.assertEqual([seen.word, unseen.word, bool(seen), bool(unseen), seen.weave, unseen.states], ["seenby", "unseen", True, False, Weave("b"), ((0, 0),)])
        self.assertEqual([seen.parts, unseen.parts], [(Weave("b"),), (((0, 0),),)])
        self.differs(seen, [Paper("seenby", Weave("b")), SeenBy(Weave("u")), unseen])
        self.differs(unseen, [Denial("unseen", [(0, 0)]), Unseen([])])


class ShownSeen(Case):

    def test_bent_papers(self):
        source = random.Random(161)
        looked = {True: 0, False: 0}
        for book in some_roads(4):
            for order in source.sample(weak_orders(book.names), min(len(weak_orders(book.names)), 8)):
                papers = bent_papers(find_eye(book, order))
                for paper in papers if len(papers) < 60 else source.sample(papers, 60):
                    due = is_seen(book, order, paper)
                    with self.subTest(book=str(book), order=order, paper=short(paper.parts)):
                        self.assertIs(shows_seen(book, order, paper), due)
                    looked[due] += 1
        self.assertGreater(min(looked.values()), 50)

    def test_any_sets_of_states(self):
        source = random.Random(162)
        looked = {True: 0, False: 0}
        for book in (THREE, CROSSED, APART, BEHIND):
            rights, lefts = unlike(book)
            states = [(i, j) for i in range(len(rights) + 1) for j in range(len(lefts) + 1)]
            for order in source.sample(weak_orders(book.names), 12):
                for share in (0.2, 0.6, 0.9):
                    some = [(0, 0)] + [state for state in states[1:-1] if source.random() < share]
                    paper = find_eye(book, order)
                    more = sorted(set(some) | set(paper.states)) if not paper else some
                    for told in (some, more, states[:-1], states, source.sample(more, len(more))):
                        due = is_seen(book, order, Unseen(told))
                        self.assertIs(shows_seen(book, order, Unseen(told)), due)
                        looked[due] += 1
        self.assertGreater(min(looked.values()), 20)

    def test_by_hand(self):
        self.assertIs(shows_seen(value=SeenBy(Weave("bbb")), order=[["c"], ["a", "b"]], book=THREE), True)
        self.assertIs(shows_seen(THREE, [["a"], ["b"], ["c"]], Unseen([(0, 0)])), False)
        order = [["a"], ["b"], ["c"]]
        states = list(find_eye(THREE, order).states)
        for told, due in ((states, True), (states[::-1], True), ([list(state) for state in states], True), ([*states, states[0]], False), (states[1:], False),
                          ([*states, (3, 3)], False), ([*states, (4, 0)], False), ([*states, (-1, 0)], False), ([*states, (0, 4)], False), ([*states, (0, -1)], False), ([*states, (True, 2)], False), ([*states, (Ratio(1), 2)], False),
                          ([*states, (1,)], False), ([*states, (1, 2, 3)], False), ([*states, None], False), ([], False), (None, False), ("ab", False)):
            self.assertIs(shows_seen(THREE, order, Unseen(told)), due)
        for weave in ("bbb", Weave("bb"), Weave("bbbb"), Weave("uuuwww"), None, Weave("bbw")):
            self.assertIs(shows_seen(THREE, [["c"], ["a", "b"]], SeenBy(weave)), False)
        # Of an order that some eye sees nothing is shut.
        every = [(i, j) for i in range(4) for j in range(4)]
        self.assertIs(shows_seen(THREE, [["c"], ["a", "b"]], Unseen(every[:-1])), False)

    def test_only_these_papers(self):
        for value in [*no_values(), Paper("seenby", Weave("bbb")), Denial("unseen", [(0, 0)]), Weave("bbb")]:
            self.assertIs(shows_seen(THREE, [["c"], ["a", "b"]], value), False)


class Brought(Case):

    def test_all_lists(self):
        for book in [*some_roads(5), EIGHT]:
            for many in range(1, len(book) + 1):
                for names in list(combinations(book.names, many))[::2]:
                    found = brought_by(book, list(names[::-1]))
                    self.assertEqual(found, brought(book, names))
                    self.assertEqual(found, tuple(name for name in book if all(light <= exact(most) for light, most in zip(lights(book, name), meet_of(book, names)))))
                    self.assertTrue(set(names) <= set(found))
                    self.is_least(book, names)

    def is_least(self, book, names):
        least = least_bringing(book, names)
        self.assertTrue(set(least) <= set(names))
        self.assertEqual(list(least), sorted(least))
        self.assertEqual(brought(book, least), brought(book, names))
        alone = [name for name in names if brought(book, [name]) == brought(book, names)]
        self.assertEqual(least, (alone[0],) if alone else least)
        self.assertEqual(len(least), 1 if alone else 2)
        if not alone:
            right = max(names, key=lambda name: lights(book, name))
            left = max(names, key=lambda name: lights(book, name)[::-1])
            self.assertEqual(set(least), {right, left})

    def test_bringers(self):
        for book in some_roads(5):
            for name in book:
                others = [other for other in book if other != name]
                due = [(other,) for other in others if name in brought(book, [other])]
                due += [pair for pair in combinations(others, 2) if name in brought(book, pair) and not any(name in brought(book, [other]) for other in pair)]
                self.assertEqual(bringers_of(book, name), tuple(sorted(due)))

    def test_by_hand(self):
        self.assertEqual([brought_by(names=["b", "a"], book=THREE), least_bringing(THREE, ["a", "b", "c"]), bringers_of(THREE, "c")],
                         [("a", "b", "c"), ("a", "b"), (("a", "b"),)])
        self.assertEqual([brought_by(THREE, ("c",)), least_bringing(names=("c",), book=THREE), bringers_of(name="a", book=THREE)], [("c",), ("c",), ()])
        self.assertEqual([brought_by(APART, ["a", "c"]), bringers_of(APART, "b"), bringers_of(APART, "a")], [("a", "b", "c"), (("a", "c"),), ()])
        self.assertEqual([brought_by(BEHIND, ["b"]), least_bringing(BEHIND, ["a", "c", "b"]), bringers_of(BEHIND, "a")], [("a", "b"), ("c",), (("b",), ("c",))])
        # Of those with the greatest right light the one with the greatest left one, and likewise of the others.
        book = Book(1, {"a": (0, [-5]), "b": (1, [-4]), "c": (0, [5]), "d": (1, [4])})
        self.assertEqual(least_bringing(book, list("abcd")), ("b", "d"))
        self.assertEqual(bringers_of(book, "a"), (("b",),))

    def test_every_eye_has_seen_what_is_brought(self):
        for book in some_roads(4):
            for order in orders_of(book):
                for many in range(1, len(order) + 1):
                    seen = [name for lot in order[:many] for name in lot]
                    self.assertEqual(brought(book, seen), tuple(sorted(seen)))

    def test_wrong_values(self):
        for call in (brought_by, least_bringing):
            self.refuses_each(BadBook("book"), lambda value: call(value, None), no_values())
            self.refuses_each(BadOrder("names"), lambda value: call(PLANE, value), [*no_lists(), [], ()])
            for value in [*no_names(), "z", ["a"]]:
                self.refuses(NoHappening(value), call, PLANE, ["a", "a", value])
            self.refuses(Twice("a"), call, PLANE, ["a", "b", "a", "b"])
            self.refuses(Unlike("road"), call, PLANE, ["a"])
        self.refuses_each(BadBook("book"), lambda value: bringers_of(value, None), no_values())
        for value in [*no_names(), "z", ["a"]]:
            self.refuses(NoHappening(value), bringers_of, PLANE, value)
        self.refuses(Unlike("road"), bringers_of, PLANE, "a")


class Counts(Case):

    def test_all_strict_orders(self):
        counts = set()
        for book in some_roads(5):
            strict = sorted(order for order in orders_of(book) if all(len(lot) == 1 for lot in order))
            self.assertEqual(seen_count(book), len(strict))
            counts.add(len(strict))
            for number, order in enumerate(strict):
                self.assertEqual(seen_number(book, number), order)
                self.assertEqual(number_seen(book, [list(lot) for lot in order]), number)
            for number in (len(strict), len(strict) + 1, 10 ** 30):
                self.refuses(BadNumber("number"), seen_number, book, number)
            for order in weak_orders(book.names)[::3]:
                self.assertEqual(number_seen(book, order), strict.index(order) if order in strict else None)
        self.assertTrue({0, 1, 2, 4} <= counts)

    def test_eight_happenings(self):
        self.assertEqual(seen_count(Book(1, {f"n{at}": (0, [at]) for at in range(8)})), 128)
        self.assertEqual(seen_count(Book(1, {f"n{at}": (at, [0]) for at in range(8)})), 1)
        begun = [()]
        for many in range(1, 9):
            begun = [(*names, name) for names in begun for name in EIGHT if name not in names and len(brought(EIGHT, [*names, name])) == many]
        due = len(begun)
        self.assertEqual(seen_count(EIGHT), due)
        orders = [seen_number(EIGHT, number) for number in range(due)]
        self.assertEqual(orders, sorted(set(orders)))
        self.assertEqual([number_seen(EIGHT, order) for order in orders], list(range(due)))

    def test_by_hand(self):
        self.assertEqual([seen_count(book=THREE), seen_number(number=3, book=THREE), number_seen(THREE, [["a"], ["c"], ["b"]]), seen_count(CROSSED)],
                         [4, (("c",), ("b",), ("a",)), 0, 0])
        self.assertIs(number_seen(order=[["c"], ["a", "b"]], book=THREE), None)
        self.assertIs(number_seen(THREE, [["a"], ["b"], ["c"]]), None)
        self.assertEqual([type(seen_count(CROSSED)), type(number_seen(THREE, [["a"], ["c"], ["b"]]))], [int, int])
        self.refuses(BadNumber("number"), seen_number, CROSSED, 0)

    def test_wrong_values(self):
        self.refuses_each(BadBook("book"), seen_count, no_values())
        self.refuses(Unlike("road"), seen_count, PLANE)
        self.refuses_each(BadBook("book"), lambda value: seen_number(value, None), no_values())
        self.refuses_each(BadNumber("number"), lambda value: seen_number(PLANE, value), no_integers())
        self.refuses_each(BadNumber("number"), lambda value: seen_number(THREE, value), [*no_integers(), -1, 4, 5])
        self.refuses(Unlike("road"), seen_number, PLANE, 99)


class Resting(Case):

    def own_order(self, book, place):
        times = {name: max(lights(book, name)[0] + place, lights(book, name)[1] - place) for name in book}
        return tuple(tuple(name for name in book if times[name] == time) for time in sorted(set(times.values())))

    def test_orders_by_places(self):
        for book in some_roads(5):
            for place in (0, -7, Ratio(5, 2), Ratio(-1, 3), 100):
                order = resting_order(book, place)
                self.assertEqual(order, self.own_order(book, exact(place)))
                self.assertEqual(order, seen_by(book, Eye([(3, place)])))

    def test_all_orders(self):
        """At own turning places, where two are seen at one moment, just beside them, and between."""
        for book in [*some_roads(5), EIGHT]:
            marks = sorted({(lights(book, one)[1] - lights(book, other)[0]) / 2 for one in book for other in book})
            near = min([other - one for one, other in zip(marks, marks[1:])], default=1) / 3
            due = []
            for place in sorted([some + beside for some in marks for beside in (-near, 0, near)]):
                if not due or due[-1] != self.own_order(book, place):
                    due.append(self.own_order(book, place))
            found = resting_orders(book)
            self.assertEqual([order for order, _ in found], due)
            self.assertEqual(len(set(due)), len(due))
            self.are_all_ratios(tuple(place for _, place in found))
            for order, place in found:
                self.assertEqual(resting_order(book, place), order)
            places = [exact(place) for _, place in found]
            self.assertEqual(places, sorted(places))
            self.assertEqual([type(found), type(found[0])], [tuple, tuple])

    def test_by_hand(self):
        self.assertEqual([resting_order(place=0, book=THREE), len(resting_orders(THREE)), resting_orders(book=THREE)[0][0]], [(("c",), ("a", "b")), 7, (("b",), ("c",), ("a",))])
        self.assertEqual([order for order, _ in resting_orders(BEHIND)], [(("a",), ("b",), ("c",))])
        joined = Book(1, {"a": (0, [0]), "b": (1, [1])})
        self.assertEqual([order for order, _ in resting_orders(joined)], [(("a",), ("b",)), (("a", "b"),)])
        self.assertEqual([resting_order(joined, place) for place in (0, 1, Ratio(99, 100))], [(("a",), ("b",)), (("a", "b"),), (("a",), ("b",))])
        self.assertEqual(len(resting_orders(Book(1, {"a": (3, [9])}))), 1)

    def test_wrong_values(self):
        self.refuses_each(BadBook("book"), lambda value: resting_order(value, None), no_values())
        self.refuses_each(BadNumber("place"), lambda value: resting_order(PLANE, value), no_ratios())
        self.refuses(Unlike("road"), resting_order, PLANE, 0)
        self.refuses_each(BadBook("book"), resting_orders, no_values())
        self.refuses(Unlike("road"), resting_orders, PLANE)


class OwnSums(Case):

    def test_weaves_are_counted(self):
        self.assertEqual([len(weaves_of(book)) for book in (THREE, BEHIND, CROSSED)], [63, 63, 63])
