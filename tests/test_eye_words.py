"""Point 23, whosefirst/eye_words.py; shows_eye_word of whosefirst/check_eyes.py."""

import random
from itertools import product

from bent import bent_papers
from helpers import AlwaysEqual, Case, no_lists, no_names, no_values, short
from own_eyes import CROSSED, EIGHT, PLANE, THREE, are_shut, fits, is_eye_word, order_by_moves, orders_of, plain, row_sign, some_roads, truth, weak_orders
from test_sayings import OwnRow, random_parts
from whosefirst.books import Book
from whosefirst.check_eyes import shows_eye_word
from whosefirst.errors import BadBook, BadOrder, BadRow, BadSaying, Impossible, NoHappening, TooMany, Twice, Unlike
from whosefirst.eye_words import SeenRow, eye_word, sees_ahead, sees_first, sees_last, sees_with, truth_in
from whosefirst.papers import Denial, Paper
from whosefirst.ready_sayings import ahead_of
from whosefirst.rider_rows import RiderRow, seen_ahead
from whosefirst.rows import AnyRow, Row
from whosefirst.sayings import Saying, all_of, any_of, least_of, no, of_row, yes
from whosefirst.seen import SeenBy, Unseen
from whosefirst.spans import Span
from whosefirst.weaves import Weave
from whosefirst.words import Always, Never, Open

KINDS = (">", ">=", "=")
MANY = [f"b{at}" for at in range(9)]
STRANGE = of_row(OwnRow("x"))


def random_seen_saying(source, names, most=3):
    """A saying of at most so many seen rows of some names, two or more."""
    rows = [SeenRow(*source.sample(list(names), 2), source.choice(KINDS)) for _ in range(most)]
    return Saying(random_parts(source, source.randint(1, 9), rows))


class Rows(Case):

    def test_attributes(self):
        row = SeenRow(kind=">=", other="b", one="a")
        self.assertEqual((row.one, row.other, row.kind, str(row)), ("a", "b", ">=", "seenrow >= a b"))
        self.assertTrue(isinstance(row, AnyRow))
        self.assertTrue(row == SeenRow("a", "b", ">="))
        self.differs(row, [SeenRow("b", "a", ">="), SeenRow("a", "b", ">"), SeenRow("a", "c", ">="), SeenRow("c", "b", ">="), Row.ahead("a", "b"), "seenrow >= a b", *no_values()])
        self.differs(SeenRow("a", "b", "="), [SeenRow("b", "a", "=")])

    def test_wrong_rows(self):
        self.refuses_each(BadRow("one"), lambda value: SeenRow(value, None, None), no_names())
        self.refuses_each(BadRow("other"), lambda value: SeenRow("a", value, None), [*no_names(), "a"])
        self.refuses_each(BadRow("kind"), lambda value: SeenRow("a", "b", value), [*no_values(), "<", "", ">>", "=>", ["="]])

    def test_texts(self):
        self.reads(SeenRow, ["seenrow > a b", "seenrow = z9 a", "seenrow >= abcdefghijkl b"])
        self.reads_not(SeenRow, {"": 0, "seenrow": 1, "seenrow >": 2, "seenrow > a": 3, "seenrow > a a": 3, "seenrow > a b c": 4, "seenrow > a b ": 4, "row > a b": 0, "seenrow < a b": 1,
                                 "seenrow  > a b": 1, " seenrow > a b": 0, "> a b": 0, "seenrow > A b": 2, "seenrow > a 1": 3, "seenrow a b": 1, "seenrow > a - b": 3, "seenrow > a  b": 3,
                                 "seenrow = a b / yes": 4, f"seenrow = {'a' * 13} b": 2})
        self.reads_no_values(SeenRow)

    def test_sayings(self):
        self.assertEqual([str(sees_ahead("a", "b")), str(sees_with(other="a", one="b")), str(sees_ahead(other="a", one="b"))],
                         ["row seenrow > a b", "row seenrow = b a", "row seenrow > b a"])
        self.assertEqual(str(sees_first("b", ["c", "b", "a"])), "row seenrow >= b a / row seenrow >= b c / and 0 1")
        self.assertEqual(str(sees_last("b", ["c", "b", "a"])), "row seenrow >= a b / row seenrow >= c b / and 0 1")
        self.assertEqual([str(sees_first(names=("c",), name="a")), str(sees_last(names=("c",), name="a"))], ["row seenrow >= a c", "row seenrow >= c a"])
        for call in (sees_first, sees_last):
            for names in ([], (), ["a"]):
                self.assertEqual(call("a", names), yes())
            self.assertEqual(len(call("a", MANY[:8]).rows), 8)
            self.refuses(TooMany("rows", 8), call, "a", MANY)
            self.assertEqual(len(call("b0", MANY).rows), 8)
            self.refuses_each(BadSaying("name"), lambda value: call(value, None), no_names())
            self.refuses_each(BadSaying("names"), lambda value: call("a", value), no_lists())
            self.refuses_each(BadSaying("names"), lambda value: call("a", ["b", "b", value]), no_names())
            self.refuses(Twice("c"), call, "a", ["b", "c", "a", "c", "b"])
            self.refuses(Twice("a"), call, "a", [*MANY, "a", "a"])
        for call in (sees_ahead, sees_with):
            self.refuses_each(BadSaying("one"), lambda value: call(value, None), no_names())
            self.refuses_each(BadSaying("other"), lambda value: call("a", value), [*no_names(), "a"])

    def test_truth_in(self):
        for order in weak_orders(list("abc")):
            for one, other in product("abc", repeat=2):
                if one != other:
                    lots = {name: at for at, lot in enumerate(order) for name in lot}
                    self.assertIs(truth_in(order, sees_ahead(one, other)), lots[one] < lots[other])
                    self.assertIs(truth_in(order, sees_with(one, other)), lots[one] == lots[other])
                    self.assertEqual(row_sign(order, SeenRow(one, other, ">")), (lots[other] > lots[one]) - (lots[other] < lots[one]))
            for name in "abc":
                self.assertIs(truth_in(order, sees_first(name, list("abc"))), name in order[0])
                self.assertIs(truth_in(saying=sees_last(name, list("abc")), order=[list(lot) for lot in order]), name in order[-1])
            self.assertIs(truth_in(order, yes()), True)
        source = random.Random(170)
        for _ in range(60):
            order = source.choice(weak_orders(list("abcd")))
            saying = random_seen_saying(source, "abcd", 4)
            self.assertIs(truth_in(order, saying), truth(order, saying))
        self.assertIs(truth_in([], no()), False)
        self.assertIs(truth_in([["zz"]], yes() | no()), True)

    def test_wrong_values_of_truth_in(self):
        self.refuses_each(BadOrder("order"), lambda value: truth_in(value, None), no_lists())
        for value in [*no_lists(), [], [1], [["a"]], [None]]:
            self.refuses(BadOrder("order"), truth_in, [["a", "a"], value], None)
        self.refuses(Twice("b"), truth_in, [["a", "b"], ["b", "a"]], None)
        self.refuses_each(BadSaying("saying"), lambda value: truth_in([], value), [*no_values(), SeenRow("a", "b", ">")])
        for saying in (STRANGE, ahead_of("a", "b"), seen_ahead("a", "b"), sees_ahead("y", "z") & ahead_of("a", "b")):
            self.refuses(Unlike("rows"), truth_in, [["a"]], saying)
        self.refuses(NoHappening("b"), truth_in, [["a"]], sees_ahead("c", "a") & sees_ahead("c", "b"))
        self.refuses(NoHappening("c"), truth_in, [["a"], ["b"]], sees_ahead("c", "a") & sees_ahead("d", "b"))


class Words(Case):

    def is_told_right(self, book, saying, begun, paper):
        self.assertTrue(is_eye_word(book, saying, begun, paper))
        self.assertIs(shows_eye_word(book, saying, begun, paper), True)

    def test_random_sayings(self):
        """Each word by all weaves; begun lots of none, some and all happenings, and such that no eye sees first."""
        source = random.Random(171)
        words = {}
        for book in [book for book in some_roads(5) if len(book) > 1]:
            orders = list(orders_of(book))
            for _ in range(12):
                saying = random_seen_saying(source, book.names)
                begun = source.choice([(), source.choice(orders)[:source.randint(0, 3)], source.choice(weak_orders(book.names))[:source.randint(1, 2)]])
                asked = [order for order in orders if order[:len(begun)] == begun]
                if not asked:
                    with self.assertRaises(Impossible) as caught:
                        eye_word(book, saying, begun)
                    self.is_shut_for(book, begun, caught.exception.paper)
                    word = "none"
                else:
                    paper = eye_word(book, saying, [list(lot) for lot in begun])
                    kept = {truth(order, saying) for order in asked}
                    self.assertEqual(paper.word, {(True,): "always", (False,): "never"}.get(tuple(kept), "open"))
                    self.is_told_right(book, saying, begun, paper)
                    word = paper.word
                words[word] = words.get(word, 0) + 1
        self.assertGreater(min(words[word] for word in ("always", "never", "open", "none")), 15)

    def is_shut_for(self, book, begun, paper):
        self.assertIs(type(paper), Unseen)
        self.assertTrue(are_shut(book, plain(begun), [], paper.states))
        tree = ("nobody", paper.states)
        for value in (Always(tree), Never(tree)):
            self.is_told_right(book, no(), begun, value)

    def test_words_with_their_contraries(self):
        source = random.Random(172)
        turned = {"always": "never", "never": "always", "open": "open"}
        for book in [book for book in some_roads(4) if len(book) > 1]:
            for _ in range(4):
                saying = random_seen_saying(source, book.names, 2)
                self.assertEqual(eye_word(book, ~saying).word, turned[eye_word(book, saying).word])
                for whole, due in ((saying | ~saying, "always"), (saying & ~saying, "never")):
                    self.assertEqual(eye_word(book, whole).word, due)
                    self.is_told_right(book, whole, [], eye_word(book, whole))

    def test_by_hand(self):
        self.assertEqual([eye_word(THREE, sees_last("c", ["a", "b"])).word, eye_word(THREE, sees_ahead("a", "b")).word, eye_word(THREE, sees_ahead("c", "a"), [["b"]]).word],
                         ["never", "open", "always"])
        self.assertEqual([eye_word(saying=saying, book=THREE).word for saying in (yes(), no(), yes() & no())], ["always", "never", "never"])
        self.assertEqual([eye_word(THREE, yes()).tree, eye_word(THREE, no()).tree], [None, None])
        both = eye_word(THREE, sees_ahead("a", "b"))
        self.assertEqual([truth(order_by_moves(THREE, weave.moves), sees_ahead("a", "b")) for weave in (both.one, both.other)], [True, False])
        for weave in (both.one, both.other):
            self.assertTrue(fits(THREE, weave))
        # c is on light that brings neither of the others, but both others bring it.
        self.assertEqual([eye_word(THREE, sees_ahead("c", "a") | sees_ahead("c", "b") | sees_with("a", "c") | sees_with("b", "c")).word], ["always"])
        self.assertEqual(eye_word(begun=[["c"], ["b", "a"]], saying=sees_with("a", "b"), book=THREE).word, "always")
        self.assertEqual(eye_word(THREE, sees_ahead("c", "a"), [["c"]]).word, "always")
        self.assertEqual(eye_word(THREE, sees_ahead("a", "b"), [["c"]]).word, "open")

    def test_begun_lots_that_no_eye_sees_first(self):
        for begun in ([["a", "b"]], [["a"], ["b"]], [["a", "b", "c"], ], [["a"], ["b"], ["c"]]):
            due = any(order[:len(begun)] == plain(begun) for order in orders_of(THREE))
            if due:
                self.assertEqual(eye_word(THREE, yes(), begun).word, "always")
            else:
                with self.assertRaises(Impossible) as caught:
                    eye_word(THREE, sees_ahead("a", "b"), begun)
                self.is_shut_for(THREE, begun, caught.exception.paper)

    def test_8_and_9_rows(self):
        names = EIGHT.names
        rows = [sees_ahead(names[at], names[(at + 3) % 8]) for at in range(8)]
        for saying in (all_of(*rows), any_of(*rows), least_of(4, *rows), least_of(4, *rows) | ~least_of(3, *rows) | least_of(2, *rows)):
            paper = eye_word(EIGHT, saying)
            self.is_told_right(EIGHT, saying, [], paper)
        self.refuses(TooMany("rows", 8), all_of, *rows, sees_with(names[0], names[1]))
        # A row told twice is one row.
        self.assertEqual(len(all_of(*rows, rows[0], rows[7]).rows), 8)
        self.assertEqual(eye_word(THREE, sees_ahead("a", "b") & sees_ahead("a", "b")).word, "open")

    def test_equal_calls_have_equal_answers(self):
        source = random.Random(173)
        for book in [book for book in some_roads(4) if len(book) > 1]:
            saying = random_seen_saying(source, book.names)
            begun = source.choice(list(orders_of(book)))[:1]
            again = eye_word(Book.read(str(book)), Saying([list(part) for part in saying.parts]), [list(lot[::-1]) for lot in begun])
            self.assertEqual(again, eye_word(book, saying, begun))

    def test_wrong_values(self):
        strange = sees_ahead("z", "y")
        for call in (eye_word, lambda book, saying, begun: shows_eye_word(book, saying, begun, None)):
            self.refuses_each(BadBook("book"), lambda value: call(value, None, None), no_values())
            self.refuses_each(BadSaying("saying"), lambda value: call(PLANE, value, None), [*no_values(), SeenRow("a", "b", ">")])
            self.refuses_each(BadOrder("begun"), lambda value: call(PLANE, STRANGE, value), no_lists())
            for value in [*no_lists(), [], [1], ["A"], [["a"]], [None]]:
                self.refuses(BadOrder("begun"), call, PLANE, STRANGE, [["z"], ["a", "a"], value])
            self.refuses(NoHappening("z"), call, PLANE, STRANGE, [["a", "a"], ["z"]])
            self.refuses(Twice("a"), call, PLANE, STRANGE, [["a"], ["b", "a"]])
            self.refuses(Unlike("road"), call, PLANE, STRANGE & strange, [["a"]])
            for saying in (STRANGE & strange, ahead_of("a", "b"), of_row(RiderRow(Span({}), Span({}), "="))):
                self.refuses(Unlike("rows"), call, THREE, saying, [["a", "b"]])
            self.refuses(NoHappening("y"), call, THREE, strange, [["a", "b"]])
        self.refuses(NoHappening("z"), eye_word, THREE, sees_ahead("a", "z"))
        self.assertIs(shows_eye_word(value=None, begun=(), saying=yes(), book=THREE), False)


class Shown(Case):

    def test_bent_papers(self):
        source = random.Random(174)
        looked = {True: 0, False: 0}
        for book in [book for book in some_roads(4) if len(book) > 1]:
            for _ in range(4):
                saying = random_seen_saying(source, book.names, 2)
                begun = source.choice([(), source.choice(list(orders_of(book)))[:1]])
                papers = bent_papers(eye_word(book, saying, begun)) + [Always(None), Never(None)]
                for paper in papers if len(papers) < 80 else source.sample(papers, 80):
                    due = is_eye_word(book, saying, begun, paper)
                    with self.subTest(book=str(book), saying=str(saying), paper=short(paper.parts)):
                        self.assertIs(shows_eye_word(book, saying, begun, paper), due)
                    looked[due] += 1
        self.assertGreater(min(looked.values()), 100)

    def test_trees_of_other_sayings(self):
        """A tree of one saying is right for another one only if it settles it."""
        source = random.Random(175)
        looked = {True: 0, False: 0}
        for book in (THREE, CROSSED):
            sayings = [random_seen_saying(source, book.names, 2) for _ in range(8)]
            for one, other in product(sayings, repeat=2):
                paper = eye_word(book, one)
                for value in [paper] if type(paper) is Open else [Always(paper.tree), Never(paper.tree)]:
                    due = is_eye_word(book, other, [], value)
                    self.assertIs(shows_eye_word(book, other, [], value), due)
                    looked[due] += 1
        self.assertGreater(min(looked.values()), 10)

    def test_by_hand(self):
        saying = sees_ahead("c", "a")
        paper = eye_word(THREE, saying, [["b"]])
        self.assertIs(shows_eye_word(THREE, saying, [["b"]], paper), True)
        self.assertIs(shows_eye_word(THREE, saying, (("b",),), paper), True)
        self.assertIs(shows_eye_word(THREE, saying, [["b"]], Never(paper.tree)), False)
        self.assertIs(shows_eye_word(THREE, saying, [], paper), False)
        cut, number, late, level, early = paper.tree
        self.assertEqual((cut, number, late), ("cut", 0, None))
        for tree in (("cut", 0, None, early, level), ("cut", 1, None, level, early), ("cut", True, None, level, early), ("cut", 0, None, level, None), ("cut", 0, None, level),
                     ("cut", 0, None, level, early, None), ("nobody", level[1]), None, (), ("cut", 0, ("cut", 0, None, level, early), level, early),
                     (AlwaysEqual(), early[1]), ("cut", 0, None, (AlwaysEqual(), level[1]), early), ("cut", AlwaysEqual(), None, level, early),
                     ("cut", 0, None, level, ("nobody", early[1], None)), ("cut", 0, None, level, ("nobody",)), ["side", "a", None, None], "nobody", ("put", 0, [])):
            self.assertIs(shows_eye_word(THREE, saying, [["b"]], Always(tree)), is_eye_word(THREE, saying, [["b"]], Always(tree)))
        self.assertIs(shows_eye_word(THREE, saying, [["b"]], Always(["cut", 0, None, ["nobody", [list(state) for state in level[1][::-1]]], early])), True)

    def test_open(self):
        saying = sees_ahead("a", "b")
        weaves = {True: [], False: []}
        for order, some in orders_of(THREE).items():
            weaves[truth(order, saying)] += some[:2]
        for one, other in product([*weaves[True][:3], *weaves[False][:3], "bb", "bbbb"], repeat=2):
            due = one in weaves[True] and other in weaves[False]
            self.assertIs(shows_eye_word(THREE, saying, [], Open(Weave(one), Weave(other))), due)
        for value in (None, "bbb", SeenBy(Weave("bbb")), 0):
            self.assertIs(shows_eye_word(THREE, saying, [], Open(Weave(weaves[True][0]), value)), False)
            self.assertIs(shows_eye_word(THREE, saying, [], Open(value, Weave(weaves[False][0]))), False)
        begun = [["c"]]
        for one, other in product(weaves[True], weaves[False]):
            due = all(order_by_moves(THREE, moves)[:1] == (("c",),) for moves in (one, other))
            self.assertIs(shows_eye_word(THREE, saying, begun, Open(Weave(one), Weave(other))), due)

    def test_begun_lots_that_no_eye_sees_first(self):
        with self.assertRaises(Impossible) as caught:
            eye_word(THREE, sees_ahead("a", "b"), [["a", "b"]])
        tree = ("nobody", caught.exception.paper.states)
        for paper in (Always(tree), Never(tree)):
            self.assertIs(shows_eye_word(THREE, sees_ahead("a", "b"), [["a", "b"]], paper), True)
            self.assertIs(shows_eye_word(THREE, sees_ahead("a", "b"), [], paper), False)
        self.assertIs(shows_eye_word(THREE, sees_ahead("a", "b"), [["a", "b"]], Open(Weave("uuuwww"), Weave("wwwuuu"))), False)

    def test_only_these_papers(self):
        for value in [*no_values(), Paper("always", None), Denial("never", None), SeenBy(Weave("bbb")), Unseen([(0, 0)])]:
            self.assertIs(shows_eye_word(THREE, yes(), [], value), False)
