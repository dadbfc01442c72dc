"""Point 13, whosefirst/words.py and whosefirst/check_words.py."""

import random

from bent import bent_papers
from helpers import Case, no_lists, no_values, short
from own import is_caller, is_tree, is_word, keeps, keeps_saying, road_paces, told_of
from test_called import some_paces
from test_callers import random_rows, rows_kept_by
from test_moved import some_books
from test_sayings import OwnRow, random_parts
from whosefirst.books import Book
from whosefirst.callers import Somebody, find_caller
from whosefirst.check_words import shows_word
from whosefirst.errors import BadBook, BadPace, BadRow, BadSaying, Impossible, NoHappening, TooMany, Unlike
from whosefirst.paces import Pace
from whosefirst.papers import Denial, Paper
from whosefirst.ratios import Ratio
from whosefirst.ready_sayings import ahead_of, first_among, level_with, lies_between
from whosefirst.rows import AnyRow, Row
from whosefirst.sayings import Saying, all_of, any_of, least_of, no, of_row, yes
from whosefirst.spans import Span
from whosefirst.words import Always, Never, Open, truth_at, word_of

HALF = Ratio(1, 2)
THREE = Book(1, {"a": (0, [0]), "b": (1, [3]), "c": (2, [1])})
STRANGE = of_row(OwnRow("x"))


def random_saying(source, book, rows):
    """A saying over some of random rows."""
    return Saying(random_parts(source, source.randint(1, 9), random_rows(source, book, rows)))


class Words(Case):

    def is_told_right(self, book, saying, given, paper):
        self.assertTrue(is_word(book, saying, given, paper))
        self.assertIs(shows_word(book, saying, given, paper), True)
        if type(paper) is not Open:
            self.has_ratios_for_weights(paper.tree)

    def has_ratios_for_weights(self, tree):
        if tree is not None and tree[0] == "nobody":
            self.are_all_ratios(tree[1])
        for below in tree[2:] if tree is not None and tree[0] == "cut" else ():
            self.has_ratios_for_weights(below)

    def test_random_sayings(self):
        source = random.Random(40)
        words = set()
        for book in some_books():
            for _ in range(25):
                saying = random_saying(source, book, 4)
                given = random_rows(source, book, source.choice([0, 0, 1, 2]))
                if find_caller(book, given):
                    paper = word_of(book, saying, given)
                    self.is_told_right(book, saying, given, paper)
                    words.add((paper.word, book.axes))
        self.assertEqual(len(words), 9)

    def test_words_with_their_contraries(self):
        """Of "not" of a saying the word is never for always, and so on; of it or its contrary it is always."""
        source = random.Random(41)
        turned = {"always": "never", "never": "always", "open": "open"}
        for book in some_books():
            for _ in range(6):
                saying = random_saying(source, book, 3)
                word = word_of(book, saying).word
                self.assertEqual(word_of(book, ~saying).word, turned[word])
                for whole, due in ((saying | ~saying, "always"), (saying & ~saying, "never")):
                    paper = word_of(book, whole)
                    self.assertEqual(paper.word, due)
                    self.is_told_right(book, whole, [], paper)

    def test_on_a_road_by_a_pace_in_each_part(self):
        source = random.Random(42)
        for book in [book for book in some_books() if book.axes == 1 and len(book) > 1] * 30:
            saying, given = random_saying(source, book, 4), random_rows(source, book, source.choice([0, 1, 2]))
            paces = [pace for pace in road_paces(book, [*saying.rows, *given]) if keeps(book, pace, given)]
            kept = {keeps_saying(book, pace, saying) for pace in paces}
            if not kept:
                self.refuses(Impossible(find_caller(book, given)), word_of, book, saying, given)
            else:
                self.assertEqual(word_of(book, saying, given).word, "open" if len(kept) == 2 else "always" if True in kept else "never")

    def test_more_given_rows_leave_always_and_never(self):
        source = random.Random(43)
        for book in some_books():
            for pace in some_paces(book.axes)[:3]:
                saying, given = random_saying(source, book, 3), rows_kept_by(source, book, pace, 4)
                word = "open"
                for many in range(5):
                    now = word_of(book, saying, given[:many])
                    self.is_told_right(book, saying, given[:many], now)
                    self.assertIn(now.word, ("always", "never", "open") if word == "open" else (word,))
                    word = now.word
                self.assertEqual(word in ("always", "open"), keeps_saying(book, pace, saying) or word == "open")

    def test_words_by_hand(self):
        self.assertEqual([word_of(THREE, saying).word for saying in (ahead_of("a", "c"), ahead_of("a", "b"), ahead_of("c", "a"), level_with("a", "b"))],
                         ["always", "open", "never", "open"])
        self.assertEqual(word_of(THREE, level_with("a", "c")).word, "never")
        # b is late against a below the pace 1/3, late against c above -1/2.
        below, above = ahead_of("a", "b"), ahead_of("b", "c")
        self.assertEqual([word_of(THREE, saying).word for saying in (below | above, ~below & ~above, below & above, least_of(2, below, above, ahead_of("a", "c")))],
                         ["always", "never", "open", "always"])
        self.assertEqual(word_of(THREE, lies_between("c", "a", "b") | lies_between("b", "a", "c") | lies_between("a", "b", "c")).word, "open")
        self.assertEqual(word_of(THREE, ~ahead_of("b", "a") | ahead_of("b", "c")).word, "always")
        self.assertEqual(word_of(THREE, first_among("a", ["b", "c"]), [Row.ahead("c", "b")]).word, "always")

    def test_yes_and_no_alone(self):
        for book in some_books():
            self.assertEqual([word_of(book, yes()), word_of(book, no())], [Always(None), Never(None)])
            self.assertEqual([word_of(book, ~yes()), word_of(book, yes() | no())], [Never(None), Always(None)])
            self.assertEqual([shows_word(book, yes(), [], Always(None)), shows_word(book, yes(), [], Never(None))], [True, False])
            self.assertEqual([truth_at(book, yes(), Pace.rest(book.axes)), truth_at(book, no(), Pace.rest(book.axes))], [True, False])

    def test_books_of_one_happening(self):
        for axes in (1, 2, 3):
            book = Book(axes, {"a": (1, [2] * axes)})
            self.assertEqual([word_of(book, saying).word for saying in (ahead_of("a", "a"), level_with("a", "a"), of_row(Row(Span({}), ">=")))],
                             ["never", "always", "always"])

    def test_rows_of_nothing(self):
        nothing = of_row(Row(Span({}), ">"))
        for saying, due in ((nothing, "never"), (~nothing, "always"), (nothing | ahead_of("a", "b"), "open")):
            paper = word_of(THREE, saying)
            self.assertEqual(paper.word, due)
            self.is_told_right(THREE, saying, [], paper)

    def test_given_rows_that_nobody_keeps(self):
        source = random.Random(44)
        seen = 0
        for book in some_books():
            for _ in range(10):
                given = random_rows(source, book, 3)
                if not find_caller(book, given):
                    seen += 1
                    try:
                        word_of(book, random_saying(source, book, 3), given)
                    except Impossible as error:
                        self.assertEqual(error.paper, find_caller(book, given))
                        self.assertTrue(is_caller(book, given, error.paper))
                    else:
                        self.fail("no Impossible")
        self.assertGreater(seen, 10)
        back = [Row.ahead("c", "a")]
        self.refuses(Impossible(find_caller(THREE, back)), word_of, THREE, yes(), back)
        for tree in (None, ("nobody", [1])):
            self.assertIs(shows_word(THREE, yes(), back, Always(tree)), True)
        self.assertIs(shows_word(THREE, yes(), back, Never(("nobody", [1]))), True)
        self.assertIs(shows_word(THREE, yes(), back, Never(None)), False)
        self.assertIs(shows_word(THREE, ahead_of("a", "b"), back, Open(Pace([0]), Pace([HALF]))), False)

    def test_24_and_25_given_rows(self):
        given = [Row.ahead("a", "c")] * 24
        self.assertEqual(word_of(THREE, ahead_of("a", "b"), given).word, "open")
        self.refuses(TooMany("given", 24), word_of, THREE, yes(), [*given, given[0]])
        self.refuses(TooMany("given", 24), word_of, THREE, yes(), [Row.ahead("c", "a")] * 25)
        self.refuses(NoHappening("z"), word_of, THREE, yes(), [*given, Row.ahead("z", "a")])
        self.assertIs(shows_word(THREE, yes(), given * 3, Always(None)), True)

    def test_8_rows(self):
        book = Book(2, {"a": (0, [0, 0]), "b": (0, [1, 0]), "c": (0, [0, 1]), "d": (1, [2, 2]), "e": (1, [-1, 3])})
        rows = [ahead_of(one, other) for one, other in ("ab", "ac", "bc", "ad", "bd", "cd", "ae", "be")]
        for saying in (all_of(*rows), any_of(*rows), least_of(4, *rows), least_of(4, *rows) | ~least_of(3, *rows) | least_of(2, *rows)):
            self.is_told_right(book, saying, [], word_of(book, saying))

    def test_truth_at(self):
        source = random.Random(45)
        for book in some_books():
            for pace in some_paces(book.axes):
                saying = random_saying(source, book, 5)
                self.assertIs(truth_at(book, saying, pace), keeps_saying(book, pace, saying))
        seen = lies_between("b", "a", "c")
        self.assertEqual([truth_at(THREE, seen, Pace([part])) for part in (0, HALF, Ratio(-2, 3))], [True, False, False])
        self.assertIs(truth_at(pace=Pace([0]), saying=seen, book=THREE), True)

    def test_equal_calls_have_equal_answers(self):
        source = random.Random(46)
        for book in some_books():
            saying, given = random_saying(source, book, 4), rows_kept_by(source, book, Pace.rest(book.axes), 2)
            again = word_of(given=tuple(Row.read(str(row)) for row in given), saying=Saying.read(str(saying)), book=Book.read(str(book)))
            self.assertEqual(again, word_of(book, saying, given))
        self.assertEqual(word_of(THREE, ahead_of("a", "b")), word_of(THREE, ahead_of("a", "b"), ()))

    def test_papers(self):
        always, never, both = Always(tree=["cut", 0, None, ["nobody", [1]], None]), Never(tree=None), Open(other=1, one=2)
        self.assertEqual([always.word, never.word, both.word, bool(always), bool(never), bool(both)], ["always", "never", "open", True, False, True])
        self.assertEqual([always.tree, never.tree, both.one, both.other], [("cut", 0, None, ("nobody", (1,)), None), None, 2, 1])
        self.assertEqual([always.parts, never.parts, both.parts], [(always.tree,), (None,), (2, 1)])
        self.assertTrue(Always(["nobody", [Ratio(1)]]) == Always(("nobody", (1,))))
        self.differs(Always(None), [Never(None), Open(None, None), Paper("always", None), Always(("nobody", ())), None])
        self.differs(Never(None), [Denial("never", None), Always(None)])


class Wrong(Case):

    def test_truth_at(self):
        saying, strange = ahead_of("z", "a"), STRANGE
        self.refuses_each(BadBook("book"), lambda value: truth_at(value, None, None), no_values())
        self.refuses_each(BadSaying("saying"), lambda value: truth_at(THREE, value, None), [*no_values(), Row.ahead("a", "b")])
        self.refuses_each(BadPace("pace"), lambda value: truth_at(THREE, strange, value), no_values())
        self.refuses(Unlike("rows"), truth_at, THREE, strange & saying, Pace.rest(2))
        self.refuses(Unlike("axes"), truth_at, THREE, saying, Pace.rest(2))
        self.refuses(NoHappening("z"), truth_at, THREE, saying, Pace.rest(1))
        self.refuses(NoHappening("x"), truth_at, THREE, saying & ahead_of("y", "x"), Pace.rest(1))

    def test_words(self):
        saying = ahead_of("z", "a")
        for call in (word_of, lambda book, saying, given: shows_word(book, saying, given, None)):
            self.refuses_each(BadBook("book"), lambda value: call(value, None, None), no_values())
            self.refuses_each(BadSaying("saying"), lambda value: call(THREE, value, None), [*no_values(), Row.ahead("a", "b")])
            self.refuses_each(BadRow("given"), lambda value: call(THREE, STRANGE, value), no_lists())
            for value in [*no_values(), AnyRow(), OwnRow("x"), "> a -1 b 1", yes()]:
                self.refuses(BadRow("given"), call, THREE, STRANGE, [Row.ahead("z", "a"), value])
            self.refuses(Unlike("rows"), call, THREE, STRANGE & saying, [Row.ahead("y", "x")])
            self.refuses(NoHappening("x"), call, THREE, saying, [Row.ahead("y", "a"), Row.ahead("x", "a")])
            self.refuses(NoHappening("y"), call, THREE, saying & ahead_of("y", "a"), [Row.ahead("z", "a")])
        self.refuses(NoHappening("z"), word_of, THREE, saying)
        self.refuses(Unlike("rows"), word_of, THREE, STRANGE)
        self.refuses(NoHappening("z"), word_of, THREE, saying, [Row.ahead("c", "a")] * 25)
        self.assertIs(shows_word(value=None, given=(), saying=yes(), book=THREE), False)

    def test_what_is_passed_stays(self):
        given = [Row.ahead("a", "c")]
        word_of(THREE, ahead_of("a", "b"), given)
        shows_word(THREE, ahead_of("a", "b"), given, Always(("cut", 0, None, None, None)))
        self.assertEqual(given, [Row.ahead("a", "c")])


class Shown(Case):

    def test_bent_papers(self):
        source = random.Random(47)
        looked = {True: 0, False: 0}
        for book in some_books():
            for _ in range(5):
                saying, given = random_saying(source, book, 2), rows_kept_by(source, book, Pace.rest(book.axes), source.choice([0, 1]))
                papers = bent_papers(word_of(book, saying, given)) + [Always(None), Never(None)]
                for paper in papers if len(papers) < 400 else source.sample(papers, 400):
                    due = is_word(book, saying, given, paper)
                    with self.subTest(book=str(book), saying=str(saying), paper=paper.parts):
                        self.assertIs(shows_word(book, saying, given, paper), due)
                    looked[due] += 1
        self.assertGreater(min(looked.values()), 50)

    def test_any_trees(self):
        saying = ahead_of("a", "b") | ahead_of("a", "c")
        right = ("cut", 1, None, ("nobody", [-1]), ("nobody", [1]))
        self.assertIs(shows_word(THREE, saying, [], Always(right)), True)
        self.assertIs(shows_word(THREE, saying, [], Never(right)), False)
        for value in [*no_values(), [], [None], ["cut"], ["nobody"], ["cut", 1, None, None], ["cut", 1, None, None, None, None], ["nobody", [1], None],
                      ["side", "a", None, None], ["put", 1, []], "cut", {"cut": 1}]:
            with self.subTest(value=short(value)):
                trees = [([value], 1, *right[2:]), (value if value != "cut" else None, 1, *right[2:]) if type(value) is str else (value, 1, *right[2:]),
                         ("cut", 1, None, (value, [-1]), right[4]), ("cut", 1, None, ("nobody", value), right[4]), ("cut", 1, None, ("nobody", [value]), right[4])]
                trees += [value, (*right[:4], value)] if value is not None else []
                trees += [("cut", value, *right[2:])]
                for tree in trees:
                    due = is_tree(THREE, saying, Always(tree).tree, [], {}, True) if type(value) in (int, Ratio) else False
                    self.assertIs(shows_word(THREE, saying, [], Always(tree)), due)

    def test_a_row_is_cut_once_on_a_way(self):
        saying = ahead_of("a", "c")
        twice = ("cut", 0, ("cut", 0, None, ("nobody", [1, -1]), ("nobody", [1, 1])), ("nobody", [-1]), ("nobody", [1]))
        self.assertIs(shows_word(THREE, saying, [], Always(twice)), False)
        self.assertIs(shows_word(THREE, saying, [], Always(("cut", 0, *[None] * 3))), False)
        both = ahead_of("a", "c") & ahead_of("a", "b")
        tree = ("cut", 0, ("cut", 1, None, ("nobody", [0, 0]), ("nobody", [0, 0])), ("nobody", [-1]), ("nobody", [1]))
        self.assertIs(shows_word(THREE, both, [], Always(tree)), False)
        on_both_branches = ("cut", 1, ("cut", 0, None, ("nobody", [0, -1]), ("nobody", [0, 1])), ("cut", 0, None, ("nobody", [0, -1]), ("nobody", [0, 1])),
                            ("cut", 0, None, ("nobody", [0, -1]), ("nobody", [0, 1])))
        self.assertIs(shows_word(THREE, ahead_of("a", "c") | ahead_of("a", "b"), [], Always(on_both_branches)), True)
        crossed = Saying([("row", Row.ahead("a", "b")), ("row", Row.ahead("a", "c")), ("or", 0, 1)])
        self.assertIs(shows_word(THREE, crossed, [], Always(on_both_branches)), False)
        turned = ("cut", 0, *[("cut", 1, None, ("nobody", [0, -1]), ("nobody", [0, 1]))] * 3)
        self.assertIs(shows_word(THREE, crossed, [], Always(turned)), True)

    def test_weights_stand_for_given_rows_and_then_cuts_from_the_top(self):
        saying = ahead_of("a", "b") & ahead_of("c", "b")
        given = [Row.ahead("b", "a")]
        tree = ("cut", 1, ("cut", 0, ("nobody", [1, 0, 1]), None, None), None, None)
        self.assertIs(shows_word(THREE, saying, given, Never(tree)), True)
        for weights in ([0, 1, 1], [1, 0, 0], [0, 1, 0], [1, 0], [1, 0, 1, 0], [1, 0, -1], [0, 0, 0]):
            bent = ("cut", 1, ("cut", 0, ("nobody", weights), None, None), None, None)
            self.assertIs(shows_word(THREE, saying, given, Never(bent)), False)

    def test_level_and_early_cuts(self):
        saying = of_row(Row(Span.between("a", "c"), ">="))
        tree = ("cut", 0, None, None, ("nobody", [3]))
        self.assertIs(shows_word(THREE, saying, [], Always(tree)), True)
        self.assertIs(shows_word(THREE, saying, [], Always(("cut", 0, None, ("nobody", [-2]), ("nobody", [3])))), True)
        self.assertIs(shows_word(THREE, saying, [], Always(("cut", 0, None, ("nobody", [2]), ("nobody", [3])))), False)
        self.assertIs(shows_word(THREE, saying, [], Always(("cut", 0, None, None, None))), False)

    def test_not_settled_is_not_right(self):
        saying = ahead_of("a", "c") & ahead_of("a", "b")
        self.assertIs(shows_word(THREE, saying, [], Always(None)), False)
        self.assertIs(shows_word(THREE, saying, [], Never(None)), False)
        self.assertIs(shows_word(THREE, saying, [], Always(("cut", 0, None, ("nobody", [-1]), ("nobody", [1])))), False)

    def test_open(self):
        saying, given = ahead_of("a", "b"), [Row.ahead("b", "c")]
        early, late, far = Pace([0]), Pace([HALF]), Pace([Ratio(-2, 3)])
        for one, other, due in ((early, late, True), (late, early, False), (early, early, False), (far, late, False), (early, far, False),
                                (early, Pace([0, 0]), False), (Pace([0, 0]), late, False), (None, late, False), (early, "1/2", False),
                                (early, Somebody(late), False)):
            self.assertIs(shows_word(THREE, saying, given, Open(one, other)), due)

    def test_only_these_papers(self):
        for value in (Paper("always", None), Denial("never", None), Somebody(Pace([0])), None, True, ("cut", 0, None, None, None)):
            self.assertIs(shows_word(THREE, yes(), [], value), False)

    def test_given_rows_in_tuples(self):
        given = [Row.ahead("c", "b")]
        saying = first_among("a", ["b", "c"])
        paper = word_of(THREE, saying, given)
        for rows in (given, tuple(given)):
            self.assertIs(shows_word(THREE, saying, rows, paper), True)
        self.assertTrue(is_tree(THREE, saying, paper.tree, told_of(given), {}, True))
