"""Point 17, whosefirst/rider_words.py and whosefirst/check_riders.py."""

import random

from bent import bent_papers
from helpers import Case, no_lists, no_values, short
from own_riders import is_rider_tree, is_rider_word, random_rider_rows, random_rider_saying, rides, rides_saying, road_books, some_riders
from test_callers import random_rows
from test_sayings import OwnRow
from test_words import random_saying
from whosefirst.books import Book
from whosefirst.callers import Somebody, find_caller
from whosefirst.check_riders import shows_rider_word
from whosefirst.errors import BadBook, BadRider, BadRow, BadSaying, Impossible, NoHappening, TooMany, Unlike
from whosefirst.paces import Pace
from whosefirst.papers import Denial, Paper
from whosefirst.ratios import Ratio
from whosefirst.ready_sayings import ahead_of, level_with
from whosefirst.rider_rows import (RiderRow, SideRow, goes_through, lies_left, lies_right, looks_longer, seen_ahead, seen_first, seen_longer, seen_with)
from whosefirst.rider_words import rider_truth, rider_word
from whosefirst.riders import Rider
from whosefirst.rows import AnyRow, Row
from whosefirst.sayings import Saying, all_of, any_of, least_of, no, of_row, yes
from whosefirst.spans import Span
from whosefirst.words import Always, Never, Open, word_of

TWO = Book(1, {"a": (0, [0]), "b": (1, [2])})
SITTING = Rider(Pace([0]), 5)
PLANE = Book(2, {"a": (0, [0, 0]), "b": (0, [1, 0])})
GAP, NOTHING = Span.between("a", "b"), Span({})
STRANGE = of_row(OwnRow("x"))
CUT = ("cut", 0, None, ("nobody", [0, 0, 0, 0, -1]), ("nobody", [0, 0, 0, 0, 1]))
TREE = ("side", "a", ("nobody", [1, 0, 1]), ("side", "b", ("nobody", [0, 1, 0, 1]), CUT))
FAR = [SideRow("a", "right"), SideRow("b", "right")]


class Words(Case):

    def is_told_right(self, book, saying, given, paper):
        self.assertTrue(is_rider_word(book, saying, given, paper))
        self.assertIs(shows_rider_word(book, saying, given, paper), True)
        if type(paper) is not Open:
            self.has_ratios_for_weights(paper.tree)

    def has_ratios_for_weights(self, tree):
        if tree is not None and tree[0] == "nobody":
            self.are_all_ratios(tree[1])
        for below in tree[2:] if tree is not None and tree[0] != "nobody" else ():
            self.has_ratios_for_weights(below)

    def test_random_sayings(self):
        source = random.Random(90)
        words = {}
        for book in road_books():
            riders = some_riders(book)
            for _ in range(20):
                saying = random_rider_saying(source, book, 3)
                given = random_rider_rows(source, book, source.choice([0, 0, 1, 1, 2]))
                asked = [rider for rider in riders if rides(book, rider, given)]
                kept = {rides_saying(book, rider, saying) for rider in asked}
                try:
                    paper = rider_word(book, saying, given)
                except Impossible as error:
                    self.assertEqual(asked, [])
                    self.is_for_any_saying(book, given, error.paper)
                    words["none"] = words.get("none", 0) + 1
                else:
                    self.is_told_right(book, saying, given, paper)
                    self.assertTrue(kept <= {"always": {True}, "never": {False}, "open": {True, False}}[paper.word])
                    words[paper.word] = words.get(paper.word, 0) + 1
        self.assertGreater(min(words.get(word, 0) for word in ("always", "never", "open", "none")), 10)

    def is_for_any_saying(self, book, given, paper):
        """The paper of an Impossible is a Never whose tree has no cut and no None, so is right for any saying and aim."""
        self.assertIs(type(paper), Never)
        ahead = [paper.tree]
        while ahead:
            tree = ahead.pop()
            self.assertIn(tree[0], ("side", "nobody"))
            ahead += tree[2:]
        for saying in (yes(), no(), of_row(SideRow(book.names[0], "left"))):
            self.is_told_right(book, saying, given, paper)
            self.is_told_right(book, saying, given, Always(paper.tree))

    def test_words_with_their_contraries(self):
        source = random.Random(91)
        turned = {"always": "never", "never": "always", "open": "open"}
        for book in road_books():
            for _ in range(5):
                saying = random_rider_saying(source, book, 2)
                word = rider_word(book, saying).word
                self.assertEqual(rider_word(book, ~saying).word, turned[word])
                for whole, due in ((saying | ~saying, "always"), (saying & ~saying, "never")):
                    paper = rider_word(book, whole)
                    self.assertEqual(paper.word, due)
                    self.is_told_right(book, whole, [], paper)

    def test_a_saying_about_calling_has_the_word_that_it_has_over_travellers(self):
        source = random.Random(92)
        for book in [book for book in road_books() if len(book) > 1]:
            for _ in range(8):
                saying, given = random_saying(source, book, 3), random_rows(source, book, source.choice([0, 1]))
                if find_caller(book, given):
                    paper = rider_word(book, saying, given)
                    self.assertEqual(paper.word, word_of(book, saying, given).word)
                    self.is_told_right(book, saying, given, paper)
                else:
                    with self.assertRaises(Impossible):
                        rider_word(book, saying, given)

    def test_by_hand(self):
        self.assertEqual(rider_word(TWO, ahead_of("a", "b") & seen_ahead("b", "a")).word, "open")
        self.assertEqual(rider_word(TWO, goes_through("a") & goes_through("b")).word, "never")
        self.assertEqual([rider_word(TWO, seen_ahead("a", "b"), [SideRow("a", side), SideRow("b", side)]).word for side in ("left", "right")], ["never", "always"])
        reach = Book(1, {"a": (0, [0]), "b": (2, [1]), "c": (1, [1])})
        self.assertEqual([rider_word(reach, saying).word for saying in (seen_ahead("a", "b"), seen_ahead("b", "a"), seen_with("a", "c"), ~seen_ahead("c", "a"),
                                                                        goes_through("a") & goes_through("b"))], ["always", "never", "open", "always", "open"])
        # Who goes through a sees b ahead of it exactly if both lights of b are less.
        self.assertEqual(rider_word(reach, seen_ahead("a", "b"), [SideRow("b", "through")]).word, "always")
        self.assertEqual(rider_word(reach, seen_with("c", "a"), [SideRow("a", "right")]).word, "never")
        self.assertEqual(rider_word(reach, seen_with("c", "a"), [SideRow("c", "left")]).word, "always")
        sides = any_of(*[call("a") for call in (lies_left, lies_right, goes_through)])
        self.assertEqual([rider_word(reach, sides).word, rider_word(reach, ~sides).word, rider_word(reach, least_of(2, *[call("a") for call in (lies_left, lies_right, goes_through)])).word],
                         ["always", "never", "never"])

    def test_what_lasts(self):
        # From one place to the same one: whoever it comes towards sees it last less than it is called to, whoever it goes from longer.
        lamp = Book(1, {"a": (0, [0]), "b": (4, [0])})
        self.assertEqual([rider_word(lamp, looks_longer("a", "b"), [SideRow(name, side) for name in "ab"]).word for side in ("left", "right")], ["open", "open"])
        rest = [Row(Span.between("a", "b"), ">=")]
        self.assertEqual([rider_word(lamp, looks_longer("a", "b", times), rest).word for times in (0, -1, 1, 2)],
                         ["always", "always", "open", "never"])
        self.assertEqual(rider_word(lamp, seen_longer("a", "b", "a", "b", Ratio(1, 2))).word, "always")
        self.assertEqual(rider_word(lamp, seen_longer("a", "b", "a", "b", 2)).word, "never")

    def test_spans_of_nothing(self):
        for kind, due in ((">", "never"), (">=", "always"), ("=", "always")):
            for row in (RiderRow(NOTHING, NOTHING, kind), Row(NOTHING, kind)):
                paper = rider_word(TWO, of_row(row))
                self.assertEqual(paper.word, due)
                self.is_told_right(TWO, of_row(row), [], paper)
        with self.assertRaises(Impossible) as caught:
            rider_word(TWO, yes(), [RiderRow(NOTHING, NOTHING, ">")])
        self.is_for_any_saying(TWO, [RiderRow(NOTHING, NOTHING, ">")], caught.exception.paper)

    def test_given_rows_that_no_rider_keeps(self):
        for given in ([SideRow("a", "left"), SideRow("a", "right")], [Row.ahead("a", "b"), Row.ahead("b", "a")], [SideRow("a", "through"), SideRow("b", "through")],
                      [seen_ahead("a", "b").rows[0], SideRow("a", "left"), SideRow("b", "left")]):
            with self.assertRaises(Impossible) as caught:
                rider_word(TWO, seen_ahead("a", "b") & ahead_of("a", "b"), given)
            self.is_for_any_saying(TWO, given, caught.exception.paper)
            self.assertIs(shows_rider_word(TWO, seen_ahead("a", "b"), given, Open(SITTING, Rider.of_line(1, -10))), False)
        self.assertIs(shows_rider_word(TWO, yes(), [SideRow("a", "left"), SideRow("a", "right")], Always(None)), True)
        self.assertIs(shows_rider_word(TWO, yes(), [SideRow("a", "left"), SideRow("a", "right")], Never(("nobody", [1, 1]))), True)

    def test_yes_no_and_no_given_rows(self):
        for book in road_books():
            self.assertEqual([rider_word(book, yes()), rider_word(book, no())], [Always(None), Never(None)])
            self.assertEqual(rider_word(book, yes(), [SideRow(book.names[0], "left")]), Always(None))

    def test_rider_truth(self):
        source = random.Random(93)
        for book in road_books():
            for rider in some_riders(book):
                saying = random_rider_saying(source, book, 5)
                self.assertIs(rider_truth(book, saying, rider), rides_saying(book, rider, saying))
        self.assertIs(rider_truth(rider=SITTING, saying=seen_ahead("b", "a") & lies_left("a"), book=TWO), True)

    def test_equal_calls_have_equal_answers(self):
        source = random.Random(94)
        for book in road_books():
            saying = random_rider_saying(source, book, 2)
            given = [SideRow(book.names[0], "left")]
            again = rider_word(given=(SideRow.read("siderow " + book.names[0] + " left"),), saying=Saying(saying.parts), book=Book.read(str(book)))
            self.assertEqual(again, rider_word(book, saying, given))


class Bounds(Case):

    def test_4_and_5_rows(self):
        rows = [SideRow("a", "left"), SideRow("a", "through"), SideRow("a", "right"), SideRow("b", "left"), SideRow("b", "right")]
        sayings = [of_row(row) for row in rows]
        self.assertEqual(rider_word(TWO, all_of(*sayings[:4])).word, "never")
        self.refuses(TooMany("rows", 4), rider_word, TWO, all_of(*sayings))
        self.assertIs(rider_truth(TWO, any_of(*sayings), SITTING), True)
        self.assertIs(shows_rider_word(TWO, any_of(*sayings), [], Never(("cut", 4, None, None, None))), False)

    def test_4_and_5_names_that_are_seen(self):
        book = Book(1, {f"n{at}": (0, [at]) for at in range(6)})
        four, five = seen_first("n0", ["n1", "n2", "n3"]), seen_first("n0", ["n1", "n2", "n3", "n4"])
        self.assertEqual(rider_word(book, four, [Row.ahead("n4", "n5")]).word, "open")
        self.assertEqual(rider_word(book, four, seen_first("n1", ["n2", "n3"]).rows).word, "open")
        self.refuses(TooMany("names", 4), rider_word, book, five)
        self.refuses(TooMany("names", 4), rider_word, book, four, seen_ahead("n4", "n5").rows)
        self.refuses(TooMany("names", 4), rider_word, book, yes(), seen_first("n0", book.names).rows)
        self.refuses(TooMany("rows", 4), rider_word, book, seen_first("n0", book.names))
        self.assertEqual(rider_word(book, four, [SideRow("n4", "left"), SideRow("n5", "right")]).word, "never")
        self.assertIs(shows_rider_word(book, five, [], Open(Rider(Pace([0]), 0), Rider(Pace([0]), 9))), True)

    def test_24_and_25_given_rows(self):
        given = [SideRow("a", "left")] * 24
        self.assertEqual(rider_word(TWO, lies_left("b"), given).word, "open")
        self.refuses(TooMany("given", 24), rider_word, TWO, yes(), [*given, given[0]])
        self.refuses(TooMany("given", 24), rider_word, TWO, yes(), [*given, SideRow("a", "right")])
        self.assertIs(shows_rider_word(TWO, yes(), given * 2, Always(None)), True)


class Wrong(Case):

    def test_rider_truth(self):
        self.refuses_each(BadBook("book"), lambda value: rider_truth(value, None, None), no_values())
        self.refuses_each(BadSaying("saying"), lambda value: rider_truth(PLANE, value, None), [*no_values(), SideRow("a", "left")])
        self.refuses_each(BadRider("rider"), lambda value: rider_truth(PLANE, STRANGE, value), [*no_values(), Pace([0])])
        self.refuses(Unlike("road"), rider_truth, PLANE, STRANGE, SITTING)
        self.refuses(Unlike("rows"), rider_truth, TWO, STRANGE & lies_left("z"), SITTING)
        self.refuses(NoHappening("y"), rider_truth, TWO, lies_left("z") & seen_ahead("y", "a"), SITTING)

    def test_words(self):
        for call in (rider_word, lambda book, saying, given: shows_rider_word(book, saying, given, None)):
            self.refuses_each(BadBook("book"), lambda value: call(value, None, None), no_values())
            self.refuses_each(BadSaying("saying"), lambda value: call(PLANE, value, None), [*no_values(), SideRow("a", "left")])
            self.refuses_each(BadRow("given"), lambda value: call(PLANE, STRANGE, value), no_lists())
            for value in [*no_values(), AnyRow(), "siderow a left", lies_left("a")]:
                self.refuses(BadRow("given"), call, PLANE, STRANGE, [OwnRow("x"), value])
            self.refuses(Unlike("road"), call, PLANE, STRANGE, [OwnRow("x")])
            self.refuses(Unlike("road"), call, PLANE, lies_left("a"), [])
            self.refuses(Unlike("rows"), call, TWO, STRANGE & lies_left("z"), [SideRow("y", "left")])
            self.refuses(Unlike("rows"), call, TWO, lies_left("z"), [SideRow("y", "left"), OwnRow("x")])
            self.refuses(NoHappening("y"), call, TWO, lies_left("z"), [SideRow("y", "left")])
            self.refuses(NoHappening("x"), call, TWO, ahead_of("z", "x"), [RiderRow(NOTHING, Span.between("y", "z"), ">")])
        rows = [lies_left(name) for name in "abcde"]
        self.refuses(NoHappening("c"), rider_word, TWO, all_of(*rows), [SideRow("a", "left")] * 25)
        self.refuses(TooMany("rows", 4), rider_word, Book(1, {name: (0, [at]) for at, name in enumerate("abcde")}), all_of(*rows), [SideRow("a", "left")] * 25)


class Shown(Case):

    def test_bent_papers(self):
        source = random.Random(95)
        looked = {True: 0, False: 0}
        for book in road_books():
            for _ in range(5):
                saying, given = random_rider_saying(source, book, 2, 2), random_rider_rows(source, book, source.choice([0, 1]), 2)
                try:
                    paper = rider_word(book, saying, given)
                except Impossible as error:
                    paper = error.paper
                papers = bent_papers(paper) + [Always(None), Never(None)]
                papers += [Always(paper.tree), Never(paper.tree)] if type(paper) is not Open else []
                for bent in papers if len(papers) < 250 else source.sample(papers, 250):
                    due = is_rider_word(book, saying, given, bent)
                    with self.subTest(book=str(book), saying=str(saying), paper=bent.parts):
                        self.assertIs(shows_rider_word(book, saying, given, bent), due)
                    looked[due] += 1
        self.assertGreater(min(looked.values()), 100)

    def test_bent_trees_of_sides(self):
        looked = {True: 0, False: 0}
        self.assertIs(shows_rider_word(TWO, seen_ahead("a", "b"), FAR, Always(TREE)), True)
        for paper in bent_papers(Always(TREE)):
            due = is_rider_word(TWO, seen_ahead("a", "b"), FAR, paper)
            self.assertIs(shows_rider_word(TWO, seen_ahead("a", "b"), FAR, paper), due)
            looked[due] += 1
        self.assertGreater(looked[False], 100)

    def test_unclear_rows(self):
        saying = seen_ahead("a", "b")
        self.assertIs(shows_rider_word(TWO, saying, FAR, Always(CUT)), False)
        self.assertIs(shows_rider_word(TWO, saying, FAR, Always(("side", "a", CUT, CUT))), False)
        # A given row that is unclear has the weight 0; told sides make it clear.
        given = [RiderRow(NOTHING, GAP, ">"), RiderRow(NOTHING, -GAP, ">")]
        self.assertIs(shows_rider_word(TWO, no(), given, Always(("nobody", [1, 1]))), False)
        self.assertIs(shows_rider_word(TWO, no(), given, Always(("side", "a", ("nobody", [1, 1, 0]), ("nobody", [1, 1, 0])))), False)
        leaf = ("nobody", [1, 1, 0, 0])
        sides = ("side", "b", leaf, leaf)
        self.assertIs(shows_rider_word(TWO, no(), given, Always(("side", "a", sides, sides))), True)

    def test_weights(self):
        half = [RiderRow(GAP, NOTHING, ">")]
        for late, early, due in (([2, -1], [2, 1], True), ([1, -1], [2, 1], False), ([2, -1], [1, 1], False), ([2, 1], [2, 1], False), ([2, -1, 0], [2, 1], False)):
            self.assertIs(shows_rider_word(TWO, ahead_of("a", "b"), half, Always(("cut", 0, None, ("nobody", late), ("nobody", early)))), due)
        # p u + q - w of a, (0, 1, 0), and of b, (-1, 1, -3): only A p + C below 0, or nothing with a weight above 0 at `>`, will do.
        for row, weights, due in (("left", [1, 1], True), ("left", [0, 1], False), ("left", [1, 0], False), ("right", [1, 1], False)):
            rows = [SideRow("b", row), SideRow("a", "right")]
            self.assertIs(shows_rider_word(TWO, no(), rows, Never(("nobody", weights))), due)
            self.assertIs(is_rider_tree(TWO, no(), rows, ("nobody", tuple(weights)), [], {}, {}, False), due)
        for kinds, due in (((">=", ">="), False), ((">", ">="), True), (("=", "="), False), (("=", ">"), True)):
            rows = [Row(GAP, kinds[0]), Row(-GAP, kinds[1])]
            self.assertIs(shows_rider_word(TWO, no(), rows, Always(("nobody", [1, 1]))), due)

    def test_sides_and_cuts_come_once_on_a_way(self):
        saying = lies_left("a")
        for tree in (("side", "a", None, None), ("side", "z", ("nobody", [0]), ("nobody", [0])), ("side", 0, None, None),
                     ("cut", 0, None, None, None), ("side", "a", ("cut", 0, None, None, ("nobody", [1, 1])), ("nobody", [1]))):
            self.assertIs(shows_rider_word(TWO, saying, [], Always(tree)), False)
        given = [SideRow("a", "left")]
        inner = ("cut", 0, None, ("nobody", [1, 0, -1]), ("nobody", [1, 0, 1]))
        once = ("side", "b", inner, inner)
        self.assertIs(shows_rider_word(TWO, saying, given, Always(once)), True)
        twice = ("side", "b", ("side", "b", *[("cut", 0, None, ("nobody", [1, 0, 0, -1]), ("nobody", [1, 0, 0, 1]))] * 2), inner)
        self.assertIs(shows_rider_word(TWO, saying, given, Always(twice)), False)

    def test_open(self):
        saying, left, right = seen_ahead("a", "b"), SITTING, Rider.of_line(1, -10)
        for one, other, given, due in ((right, left, [], True), (left, right, [], False), (right, right, [], False), (right, left, [SideRow("a", "left")], False),
                                       (right, left, [Row.ahead("a", "b")], True), (right, None, [], False), (right.pace, left, [], False), (right, "0 5", [], False)):
            self.assertIs(shows_rider_word(TWO, saying, given, Open(one, other)), due)

    def test_any_values(self):
        saying = seen_ahead("a", "b")
        for value in [*no_values(), Somebody(Pace([0])), Paper("always", TREE), Denial("never", TREE), SITTING]:
            with self.subTest(value=short(value)):
                weights = ("nobody", [1, 0, value])
                for paper in (value, Open(value, SITTING), Always(("side", [value], TREE[2], TREE[3])), Always(("side", "a", ("nobody", value), TREE[3])),
                              Always((value if value != "a" else None, "a", TREE[2], TREE[3])) if type(value) is str else Always((value, "a", TREE[2], TREE[3])),
                              Always((value, [1, 0, 1])), Always(("side", "a", TREE[2], value)), Always(value), Always(("side", "a", weights, TREE[3]))):
                    due = type(value) in (int, Ratio) and is_rider_word(TWO, saying, FAR, paper)
                    self.assertIs(shows_rider_word(TWO, saying, FAR, paper), due)
        self.assertIs(shows_rider_word(value=Always(TREE), given=tuple(FAR), saying=saying, book=TWO), True)
        self.assertEqual(rider_word(TWO, level_with("a", "b")).word, "open")
