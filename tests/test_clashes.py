"""Points 10 and 11, whosefirst/clashes.py and whosefirst/check_callers.py."""

import random
from itertools import combinations, permutations

from bent import bent_papers
from helpers import Case, no_lists, no_values, short
from own import is_caller, is_clash, is_nobody, keeps, road_paces, told_of
from test_called import some_paces
from test_callers import random_rows, rows_kept_by
from test_moved import some_books
from whosefirst.books import Book
from whosefirst.callers import Nobody, Somebody, find_caller, order_rows
from whosefirst.check_callers import shows_caller, shows_clash
from whosefirst.clashes import Clash, all_clashes, least_clash
from whosefirst.errors import BadBook, BadRow, NoHappening, TooMany
from whosefirst.paces import Pace
from whosefirst.papers import Denial, Paper
from whosefirst.ratios import Ratio
from whosefirst.rows import AnyRow, Row
from whosefirst.spans import Span

HALF = Ratio(1, 2)
THREE = Book(1, {"a": (0, [0]), "b": (1, [3]), "c": (2, [1])})
FLAT = Book(2, {"o": (0, [0, 0]), "e": (Ratio(-3, 4), [1, 0]), "n": (Ratio(-3, 4), [0, 1])})
ROOM = Book(3, {"o": (0, [0, 0, 0]), "x": (0, [1, 0, 0]), "y": (0, [0, 1, 0]), "z": (0, [0, 0, 1])})
NOTHING = Row(Span({}), ">")


def own_clashes(book, rows):
    """All clashes, each set of numbers asked alone."""
    found = []
    for many in range(1, len(rows) + 1):
        for numbers in combinations(range(len(rows)), many):
            if not any(set(clash) <= set(numbers) for clash in found) and not find_caller(book, [rows[number] for number in numbers]):
                found.append(numbers)
    return tuple(found)


class Clashes(Case):

    def is_told_right(self, book, rows, paper):
        self.assertTrue(is_clash(book, rows, paper))
        if not paper:
            self.are_all_ratios(paper.weights)
            self.assertTrue(all(weight.sign for weight in paper.weights))
            self.assertTrue(1 <= len(paper.numbers) <= book.axes + 1)
            self.assertEqual({type(number) for number in paper.numbers}, {int})

    def test_random_rows(self):
        source = random.Random(20)
        words = set()
        for book in some_books():
            for _ in range(25):
                rows = random_rows(source, book, source.choice([1, 2, 3, 5, 8, 24]))
                paper = least_clash(book, rows)
                self.is_told_right(book, rows, paper)
                self.assertIs(shows_clash(book, rows, paper), True)
                self.assertEqual(bool(paper), bool(find_caller(book, rows)))
                words.add((paper.word, book.axes, 0 if paper else len(paper.numbers)))
        for axes in (1, 2, 3):
            self.assertIn(("somebody", axes, 0), words)
            for many in range(1, min(axes + 2, 4)):
                self.assertIn(("clash", axes, many), words)

    def test_all_clashes_of_random_rows(self):
        source = random.Random(21)
        for book in some_books():
            for many in (0, 1, 2, 3, 4, 5, 6):
                rows = random_rows(source, book, many)
                found = all_clashes(book, rows)
                self.assertEqual(found, own_clashes(book, rows))
                paper = least_clash(book, rows)
                self.assertEqual(bool(found), not paper)
                self.assertTrue(paper or paper.numbers in found)

    def test_on_a_road_by_paces_alone(self):
        """What is barred is told by a pace in each part of the road's paces, without a search."""
        source = random.Random(22)
        for book in [book for book in some_books() if book.axes == 1 and len(book) > 1] * 15:
            rows = random_rows(source, book, 5)
            paces = road_paces(book, rows)
            barred = []
            for many in (1, 2, 3):
                for numbers in combinations(range(5), many):
                    if not any(set(clash) <= set(numbers) for clash in barred):
                        if not any(keeps(book, pace, [rows[number] for number in numbers]) for pace in paces):
                            barred.append(numbers)
            self.assertEqual(all_clashes(book, rows), tuple(barred))

    def test_equal_rows_have_numbers_of_their_own(self):
        back = Row.ahead("c", "a")
        self.assertEqual(all_clashes(THREE, [back, back, back]), ((0,), (1,), (2,)))
        one, other = Row.ahead("c", "b"), Row.ahead("b", "a")
        self.assertEqual(all_clashes(THREE, [one, other, one]), ((0, 1), (1, 2)))
        self.assertIn(least_clash(THREE, [one, one, other, other]).numbers, ((0, 2), (0, 3), (1, 2), (1, 3)))

    def test_four_rows_of_a_room(self):
        total = Span.between("o", "x") + Span.between("o", "y") + Span.between("o", "z")
        rows = [Row.ahead("o", "x"), Row.ahead("o", "y"), Row.ahead("o", "z"), Row(-total, ">=")]
        self.assertEqual(all_clashes(ROOM, rows), ((0, 1, 2, 3),))
        paper = least_clash(ROOM, rows)
        self.assertEqual(paper.numbers, (0, 1, 2, 3))
        self.is_told_right(ROOM, rows, paper)

    def test_no_rows_one_row_rows_of_nothing(self):
        for book in some_books():
            self.assertEqual(all_clashes(book, []), ())
            self.assertEqual(least_clash(book, ()).word, "somebody")
            self.is_told_right(book, [], least_clash(book, []))
            self.assertEqual(all_clashes(book, [NOTHING]), ((0,),))
            self.assertEqual(all_clashes(book, (Row(Span({}), ">="), NOTHING, Row(Span({}), "="))), ((1,),))
            self.assertEqual(least_clash(book, [NOTHING]).numbers, (0,))
            self.is_told_right(book, [NOTHING], least_clash(book, [NOTHING]))

    def test_8_and_9_rows_24_and_25(self):
        rows = [Row.ahead("a", "c")] * 8
        self.assertEqual(all_clashes(THREE, rows), ())
        self.assertEqual(len(all_clashes(THREE, [Row.ahead("c", "b")] * 4 + [Row.ahead("b", "a")] * 4)), 16)
        self.refuses(TooMany("rows", 8), all_clashes, THREE, [*rows, rows[0]])
        self.assertTrue(least_clash(THREE, rows * 3))
        self.refuses(TooMany("rows", 24), least_clash, THREE, [*rows * 3, rows[0]])
        for call in (all_clashes, least_clash):
            self.refuses(NoHappening("y"), call, THREE, [*rows * 4, Row.ahead("z", "y")])
            self.refuses(BadRow("rows"), call, THREE, [*rows * 4, Row.ahead("z", "y"), None])

    def test_wrong_books_and_rows(self):
        strange = [Row.ahead("z", "y"), Row.ahead("x", "a")]
        for call in (all_clashes, least_clash, lambda book, rows: shows_caller(book, rows, None), lambda book, rows: shows_clash(book, rows, None)):
            self.refuses_each(BadBook("book"), lambda value: call(value, None), no_values())
            self.refuses_each(BadRow("rows"), lambda value: call(THREE, value), no_lists())
            for value in [*no_values(), AnyRow(), "> a -1 b 1", Span({})]:
                self.refuses(BadRow("rows"), call, THREE, [strange[0], value])
            self.refuses(NoHappening("x"), call, THREE, strange)
        for call in (shows_caller, shows_clash):
            self.assertIs(call(value=None, rows=(), book=THREE), False)
        self.assertEqual(all_clashes(rows=[], book=THREE), ())
        self.assertTrue(least_clash(rows=[], book=THREE))

    def test_equal_calls_have_equal_answers(self):
        source = random.Random(23)
        for book in some_books():
            rows = random_rows(source, book, 6)
            copies = tuple(Row.read(str(row)) for row in rows)
            self.assertEqual(least_clash(Book.read(str(book)), copies), least_clash(book, rows))

    def test_papers(self):
        paper = Clash(paces=[Pace([0])], weights=[[1]], numbers=(0,))
        self.assertEqual((paper.word, bool(paper)), ("clash", False))
        self.assertEqual((paper.numbers, paper.weights, paper.paces), ((0,), ((1,),), (Pace([0]),)))
        self.assertEqual(paper.parts, ((0,), ((1,),), (Pace([0]),)))
        self.assertTrue(paper == Clash([0], ((Ratio(1),),), (Pace([0]),)))
        self.differs(paper, [Clash([0], [1], [Pace([0])]), Denial("clash", [0], [[1]], [Pace([0])]), Paper("clash", [0], [[1]], [Pace([0])])])


class Shown(Case):

    def test_callers_that_are_told(self):
        source = random.Random(24)
        for book in some_books():
            for _ in range(20):
                rows = random_rows(source, book, source.choice([1, 2, 3, 24]))
                self.assertIs(shows_caller(book, rows, find_caller(book, rows)), True)

    def test_bent_papers(self):
        source = random.Random(25)
        looked = {True: 0, False: 0}
        for book in some_books():
            for many in (1, 2, 3, 5):
                rows = random_rows(source, book, many)
                for paper in bent_papers(find_caller(book, rows)):
                    due = is_caller(book, rows, paper)
                    self.assertIs(shows_caller(book, rows, paper), due)
                    looked[due] += 1
                for paper in bent_papers(least_clash(book, rows)):
                    due = is_clash(book, rows, paper)
                    self.assertIs(shows_clash(book, rows, paper), due)
                    looked[due] += 1
        self.assertGreater(min(looked.values()), 100)

    def test_any_weights(self):
        source = random.Random(26)
        right = 0
        for _ in range(400):
            rows = random_rows(source, THREE, 3)
            weights = [source.choice([0, 0, 1, 2, HALF, -1]) for _ in rows]
            due = is_nobody(THREE, told_of(rows), tuple(weights))
            self.assertIs(shows_caller(THREE, rows, Nobody(weights)), due)
            right += due
        self.assertGreater(right, 20)

    def test_weights_below_nought_stand_at_level_rows_alone(self):
        rows = {kind: [Row(Span.between("a", "c"), kind)] for kind in (">", ">=", "=")}
        for kind, due in ((">", False), (">=", False), ("=", True)):
            self.assertIs(shows_caller(THREE, rows[kind], Nobody([-1])), due)
            self.assertIs(shows_caller(THREE, rows[kind], Nobody([0])), False)
            self.assertIs(shows_caller(THREE, [Row(Span.between("c", "a"), kind)], Nobody([Ratio(1, 10 ** 30)])), True)

    def test_nothing_needs_a_weight_above_nought_at_a_late_row(self):
        forth, back = Span.between("a", "b"), Span.between("b", "a")
        for first, second, due in ((">", ">=", True), (">=", ">", True), (">=", ">=", False), ("=", "=", False), ("=", ">", True), (">=", "=", False)):
            self.assertIs(shows_caller(THREE, [Row(forth, first), Row(back, second)], Nobody([1, 1])), due)
        self.assertIs(shows_caller(THREE, [Row(forth, ">="), Row(back, "="), NOTHING], Nobody([1, 1, 0])), False)
        self.assertIs(shows_caller(THREE, [Row(forth, ">="), Row(back, "="), NOTHING], Nobody([1, 1, 2])), True)

    def test_somebody_keeps_at_the_edge(self):
        third = Somebody(Pace([Ratio(1, 3)]))
        for kind, due in ((">", False), (">=", True), ("=", True)):
            self.assertIs(shows_caller(THREE, [Row(Span.between("a", "b"), kind)], third), due)

    def test_any_values_in_papers(self):
        rows, paces = [Row.ahead("a", "b"), Row.ahead("b", "a")], [Pace([HALF]), Pace([0])]
        self.assertIs(shows_clash(THREE, rows, Clash([0, 1], [1, 1], paces)), True)
        for value in [*no_values(), Pace([0, 0]), [1], [1, 1, 1], [1, True], [1, "1"], [[1], [1]], "11", {"a": 1, "b": 1}]:
            with self.subTest(value=short(value)):
                papers = [Nobody(value), Somebody(value), value, Clash(value, [1, 1], paces), Clash([0, 1], value, paces), Clash([0, 1], [1, 1], value),
                          Clash([0, 1], [1, 1], [paces[0], value])]
                if type(value) not in (int, Ratio):
                    papers += [Nobody([1, value]), Clash([0, value], [1, 1], paces), Clash([0, 1], [1, value], paces)]
                for paper in papers:
                    self.assertIs(shows_caller(THREE, rows, paper), False)
                    self.assertIs(shows_clash(THREE, rows, paper), False)

    def test_integers_for_ratios_but_no_ratios_for_integers(self):
        rows = [Row.ahead("a", "b"), Row.ahead("b", "a")]
        paces = [Pace([HALF]), Pace([0])]
        self.assertIs(shows_clash(THREE, rows, Clash((0, 1), (Ratio(1), 1), paces)), True)
        self.assertIs(shows_clash(THREE, rows, Clash([Ratio(0), 1], [1, 1], paces)), False)
        self.assertIs(shows_clash(THREE, rows, Clash([False, True], [1, 1], paces)), False)
        self.assertIs(shows_clash(THREE, rows, Clash([0, 1], [True, True], paces)), False)
        self.assertIs(shows_caller(THREE, rows, Nobody([Ratio(1), 1])), True)
        self.assertIs(shows_caller(THREE, rows, Nobody([1, True])), False)

    def test_numbers_in_any_order_but_ascending(self):
        rows = [Row.ahead("o", "x"), Row.ahead("o", "y"), Row(Span.between("x", "o") + Span.between("y", "o"), ">=")]
        paper = least_clash(ROOM, rows)
        self.assertEqual(paper.numbers, (0, 1, 2))
        for turn in permutations(range(3)):
            turned = Clash(turn, [paper.weights[at] for at in turn], [paper.paces[at] for at in turn])
            self.assertIs(shows_clash(ROOM, rows, turned), turn == (0, 1, 2))
        self.assertIs(shows_clash(ROOM, rows, Clash([], [], [])), False)
        self.assertIs(shows_clash(ROOM, [], Clash([], [], [])), False)

    def test_a_clash_that_is_none(self):
        """Nobody keeps all rows with these numbers, but one more than needed is told."""
        rows = [Row.ahead("a", "b"), Row.ahead("b", "a"), Row.ahead("a", "c")]
        paces = [Pace([HALF]), Pace([0]), Pace([0])]
        self.assertIs(shows_clash(THREE, rows, Clash([0, 1, 2], [1, 1, 0], paces)), False)
        self.assertIs(shows_clash(THREE, rows, Clash([0, 1], [1, 1], paces[:2])), True)
        self.assertIs(shows_clash(THREE, rows, Clash([0, 1], [1, 1], paces)), False)
        self.assertIs(shows_clash(THREE, rows, Clash([0, 1], [1, 1], paces[1::-1])), False)

    def test_only_these_papers(self):
        rows = [Row.ahead("a", "c")]
        for value in (Paper("somebody", Pace([0])), Denial("nobody", [1]), Clash([0], [1], [Pace([0])]), Pace([0]), True):
            self.assertIs(shows_caller(THREE, rows, value), False)
        self.assertIs(shows_clash(THREE, [Row.ahead("c", "a")], Nobody([1])), False)
        self.assertIs(shows_caller(THREE, [Row.ahead("c", "a")], Nobody([1])), True)

    def test_beyond_the_bounds(self):
        many = [Row.ahead("a", "c")] * 40
        self.assertIs(shows_caller(THREE, many, Somebody(Pace([0]))), True)
        self.assertIs(shows_clash(THREE, many, Somebody(Pace([0]))), True)
        barred = [*many, Row.ahead("c", "a")]
        self.assertIs(shows_caller(THREE, barred, Nobody([0] * 40 + [1])), True)
        self.assertIs(shows_clash(THREE, barred, Clash([40], [1], [Pace([0])])), True)

    def test_rows_kept_by_a_pace(self):
        source = random.Random(27)
        for book in some_books():
            for pace in some_paces(book.axes):
                rows = rows_kept_by(source, book, pace, 4)
                self.assertIs(shows_caller(book, rows, Somebody(pace)), True)
                self.assertIs(shows_caller(book, [*rows, Row(-rows[0].span, ">")], Somebody(pace)), keeps(book, pace, [Row(-rows[0].span, ">")]))

    def test_orders_are_called_or_barred(self):
        for order in permutations("abc"):
            rows = order_rows([[name] for name in order])
            paper = least_clash(THREE, rows)
            self.assertTrue(is_clash(THREE, rows, paper))
            self.assertEqual(bool(paper), order in (("a", "b", "c"), ("a", "c", "b"), ("b", "a", "c")))
