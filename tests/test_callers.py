"""Points 8, 10 and 11 and whosefirst/callers.py."""

import random
from itertools import product

from helpers import Case, no_lists, no_names, no_ratios, no_values, short
from test_called import own_worth, some_paces
from test_moved import some_books
from whosefirst.books import Book
from whosefirst.callers import Nobody, Somebody, find_caller, keeps_rows, order_rows, weighted_step
from whosefirst.errors import BadBook, BadNumber, BadOrder, BadPace, BadRow, NoHappening, TooMany, Twice, Unlike
from whosefirst.paces import Pace
from whosefirst.papers import Denial, Paper
from whosefirst.ratios import Ratio
from whosefirst.rows import AnyRow, Row
from whosefirst.spans import Span
from whosefirst.steps import Step

HALF = Ratio(1, 2)
THREE = Book(1, {"a": (0, [0]), "b": (1, [3]), "c": (2, [1])})
KINDS = (">", ">=", "=")


def own_keeps(book, pace, row):
    sign = own_worth(book, pace, row.span).sign
    return {">": sign > 0, ">=": sign >= 0, "=": sign == 0}[row.kind]


def random_rows(source, book, many):
    rows = []
    for _ in range(many):
        if source.random() < 0.6:
            span = Span.between(source.choice(book.names), source.choice(book.names))
        else:
            terms = {name: Ratio(source.randint(-3, 3), source.randint(1, 2)) for name in book}
            rest = Ratio(0)
            for number in terms.values():
                rest = rest + number
            terms[book.names[0]] = terms[book.names[0]] - rest
            span = Span(terms)
        rows.append(Row(span, source.choice(KINDS)))
    return rows


def rows_kept_by(source, book, pace, many):
    """Rows that a pace keeps, of all kinds that it lets."""
    rows = []
    while len(rows) < many:
        for row in random_rows(source, book, 1):
            sign = own_worth(book, pace, row.span).sign
            span = row.span * sign if sign else row.span
            rows.append(Row(span, source.choice([">", ">", ">="]) if sign else source.choice([">=", "="])))
    return rows


class Callers(Case):

    def is_right(self, book, rows, paper):
        """The paper is a Somebody or a Nobody that is right, by sums of the test's own."""
        if paper:
            self.assertIs(type(paper), Somebody)
            self.assertIs(type(paper.pace), Pace)
            self.assertEqual(paper.pace.axes, book.axes)
            for row in rows:
                self.assertTrue(own_keeps(book, paper.pace, row), str(row))
        else:
            self.assertIs(type(paper), Nobody)
            self.are_all_ratios(paper.weights)
            self.is_nobody(book, rows, paper.weights)

    def is_nobody(self, book, rows, weights):
        self.assertEqual(len(weights), len(rows))
        numbers = [Ratio(0)] * (book.axes + 1)
        for row, weight in zip(rows, weights):
            self.assertTrue(weight.sign >= 0 or row.kind == "=")
            for name, times in row.span.terms:
                spot = book.spot_of(name)
                numbers = [one + more * times * weight for one, more in zip(numbers, (spot.time, *spot.place))]
        step = Step(numbers[0], numbers[1:])
        square = numbers[0] * numbers[0]
        for number in numbers[1:]:
            square = square - number * number
        if any(numbers):
            self.assertEqual((numbers[0].sign, square.sign >= 0), (-1, True))
        else:
            self.assertTrue(any(row.kind == ">" and weight.sign > 0 for row, weight in zip(rows, weights)))
        self.assertEqual(weighted_step(book, rows, weights), step)

    def test_random_rows(self):
        source = random.Random(10)
        words = set()
        for book in some_books():
            for _ in range(60):
                rows = random_rows(source, book, source.choice([1, 1, 2, 2, 3, 4, 6, 24]))
                paper = find_caller(book, rows)
                self.is_right(book, rows, paper)
                words.add((paper.word, book.axes))
        self.assertEqual(len(words), 6)

    def test_rows_that_somebody_keeps(self):
        source = random.Random(11)
        for book in some_books():
            for pace in some_paces(book.axes):
                for many in (1, 3, 7, 24):
                    rows = rows_kept_by(source, book, pace, many)
                    self.assertIs(keeps_rows(book, pace, rows), True)
                    paper = find_caller(book, rows)
                    self.assertEqual(paper.word, "somebody")
                    self.is_right(book, rows, paper)

    def test_rows_of_called_orders(self):
        for axes in (1, 2, 3):
            book = [book for book in some_books() if book.axes == axes][-1]
            for pace in some_paces(axes):
                lots = {}
                for name in book:
                    worth = own_worth(book, pace, Span.between(book.names[0], name))
                    lots.setdefault(str(worth), (worth, []))[1].append(name)
                order = []
                while lots:
                    least = next(key for key in lots if not any(lots[more][0].is_below(lots[key][0]) for more in lots))
                    order.append(lots.pop(least)[1])
                self.is_right(book, order_rows(order), find_caller(book, order_rows(order)))
                self.assertTrue(find_caller(book, order_rows(order)))
                self.assertFalse(len(order) > 1 and find_caller(book, [*order_rows(order), Row.ahead(order[1][0], order[0][0])]))

    def test_rows_alone(self):
        """Nobody keeps a row alone exactly if its step is backward, or for > nothing, or for = forward."""
        for book in some_books():
            for one, other in product(book, book):
                for times in (1, Ratio(2, 3)):
                    span = Span.between(one, other) * times
                    kind = book.step_of(span).kind
                    for sign in KINDS:
                        barred = kind == "backward" or (sign == ">" and kind == "nothing") or (sign == "=" and kind == "forward")
                        paper = find_caller(book, [Row(span, sign)])
                        self.assertEqual(bool(paper), not barred)
                        self.is_right(book, [Row(span, sign)], paper)

    def test_on_a_road_by_the_ends_of_what_rows_let(self):
        """On a road rows let a stretch of paces: whether there is a pace in all is told by their ends and middles."""
        source = random.Random(12)
        for book in [book for book in some_books() if book.axes == 1 and len(book) > 1] * 40:
            rows = random_rows(source, book, source.choice([2, 3, 4]))
            ends = [Ratio(-1), Ratio(1)]
            for row in rows:
                step = book.step_of(row.span)
                if step.place[0].sign:
                    ends.append(step.time.over(step.place[0]))
            tried = [(one + other) * HALF for one in ends for other in ends]
            paces = [Pace([part]) for part in tried if abs(part).is_below(1)]
            kept = any(all(own_keeps(book, pace, row) for row in rows) for pace in paces)
            paper = find_caller(book, rows)
            self.assertEqual(bool(paper), kept)
            self.is_right(book, rows, paper)

    def test_paces_as_fast_as_light_or_faster_are_none(self):
        for axes, place in ((1, [1]), (2, [Ratio(3, 5), Ratio(4, 5)]), (3, [Ratio(1, 3), Ratio(-2, 3), Ratio(2, 3)])):
            for factor, kept in ((1, False), (HALF, False), (Ratio(10 ** 30, 10 ** 30 + 1), False), (Ratio(10 ** 30 + 1, 10 ** 30), True), (2, True)):
                # Only paces at least as fast as 1 by the factor along the place call the step level or early.
                book = Book(axes, {"o": (0, [0] * axes), "x": (1, [Ratio.of(number) * factor for number in place])})
                for kind in KINDS:
                    rows = [Row(Span.between("x", "o"), kind)]
                    paper = find_caller(book, rows)
                    self.assertEqual(bool(paper), kept)
                    self.is_right(book, rows, paper)

    def test_paces_that_two_rows_let_only_faster_than_light(self):
        flat = Book(2, {"o": (0, [0, 0]), "e": (Ratio(-3, 4), [1, 0]), "n": (Ratio(-3, 4), [0, 1])})
        rows = [Row.ahead("o", "e"), Row.ahead("o", "n")]
        for kept in ([rows[0]], [rows[1]]):
            self.assertTrue(find_caller(flat, kept))
        paper = find_caller(flat, rows)
        self.assertFalse(paper)
        self.is_right(flat, rows, paper)
        edge = Book(2, {"o": (0, [0, 0]), "e": (Ratio(-3, 5), [1, 0]), "n": (Ratio(-4, 5), [0, 1])})
        for first, second in product(KINDS, KINDS):
            rows = [Row(Span.between("o", "e"), first), Row(Span.between("o", "n"), second)]
            self.assertFalse(find_caller(edge, rows))
            self.is_right(edge, rows, find_caller(edge, rows))

    def test_rows_that_no_pace_of_any_square_keeps(self):
        book = Book(2, {"a": (0, [0, 0]), "b": (0, [1, 0]), "c": (0, [0, 1])})
        lists = [[Row.ahead("a", "b"), Row.ahead("b", "a")], [Row.ahead("a", "b"), Row.ahead("b", "c"), Row.ahead("c", "a")],
                 [Row.level("a", "b"), Row.ahead("b", "a")], [Row(Span({}), ">")], [Row.level("a", "b"), Row.level("c", "b"), Row.ahead("a", "c")],
                 [Row(Span.between("a", "b"), ">="), Row(Span.between("b", "c"), ">="), Row(Span.between("c", "a"), ">")]]
        for rows in lists:
            paper = find_caller(book, rows)
            self.assertEqual(paper.word, "nobody")
            self.is_right(book, rows, paper)
        self.assertEqual(str(weighted_step(book, lists[0], find_caller(book, lists[0]).weights)), "0 0 0")
        rows = [Row(Span.between("a", "b"), ">="), Row(Span.between("b", "a"), ">=")]
        self.assertTrue(find_caller(book, rows))

    def test_level_rows_leave_one_pace_alone(self):
        rows = [Row.level("a", "b"), Row.level("a", "c"), Row.level("a", "d")]
        parts = [Ratio(2, 7), Ratio(-3, 7), Ratio(6, 7) * Ratio(99, 100)]
        book = Book(3, {"a": (0, [0, 0, 0]), "b": (parts[0], [1, 0, 0]), "c": (parts[1], [0, 1, 0]), "d": (parts[2], [0, 0, 1])})
        self.assertEqual(find_caller(book, rows), Somebody(Pace(parts)))
        light = Book(3, {"a": (0, [0, 0, 0]), "b": (Ratio(2, 7), [1, 0, 0]), "c": (Ratio(-3, 7), [0, 1, 0]), "d": (Ratio(6, 7), [0, 0, 1])})
        self.assertFalse(find_caller(light, rows))
        self.is_right(light, rows, find_caller(light, rows))

    def test_no_rows(self):
        for axes in (1, 2, 3):
            book = Book(axes, {"a": (0, [0] * axes)})
            for rows in ([], ()):
                self.is_right(book, rows, find_caller(book, rows))
                self.assertIs(keeps_rows(book, Pace.rest(axes), rows), True)
                self.assertEqual(weighted_step(book, rows, []), Step.nothing(axes))
        self.assertTrue(find_caller(THREE, [Row(Span({}), ">="), Row(Span({}), "=")]))

    def test_near_to_light(self):
        near = Ratio(10 ** 40 - 1, 10 ** 40)
        book = Book(2, {"o": (0, [0, 0]), "x": (near, [1, 0]), "y": (0, [0, 1])})
        for kind in KINDS:
            rows = [Row(Span.between("x", "o"), kind), Row.ahead("y", "o")]
            paper = find_caller(book, rows)
            self.is_right(book, rows, paper)
            self.assertTrue(paper)

    def test_equal_calls_have_equal_answers(self):
        source = random.Random(13)
        for book in some_books():
            rows = random_rows(source, book, 4)
            again = find_caller(Book.read(str(book)), tuple(Row.read(str(row)) for row in rows))
            self.assertEqual(find_caller(rows=rows, book=book), again)

    def test_keeps_rows(self):
        source = random.Random(14)
        for book in some_books():
            for pace in some_paces(book.axes):
                rows = random_rows(source, book, 3)
                for some in (rows, rows[:1], tuple(rows[1:])):
                    self.assertIs(keeps_rows(rows=some, pace=pace, book=book), all(own_keeps(book, pace, row) for row in some))
        many = [Row(Span({}), "=")] * 100
        self.assertIs(keeps_rows(THREE, Pace([0]), many), True)
        self.assertIs(keeps_rows(THREE, Pace([0]), [*many, Row(Span({}), ">")]), False)

    def test_weighted_step(self):
        rows = [Row.ahead("a", "b"), Row.level("c", "a"), Row(Span({}), ">=")]
        self.assertEqual(weighted_step(THREE, rows, [2, Ratio(-1, 2), 7]), Step(3, [Ratio(13, 2)]))
        self.assertEqual(weighted_step(weights=(0, 0, 0), rows=tuple(rows), book=THREE), Step.nothing(1))
        self.assertEqual(weighted_step(THREE, [rows[0]] * 30, [1] * 30), Step(30, [90]))

    def test_papers(self):
        some, none = Somebody(pace=Pace([0])), Nobody(weights=[1, [2]])
        self.assertEqual((some.word, some.parts, some.pace, bool(some)), ("somebody", (Pace([0]),), Pace([0]), True))
        self.assertEqual((none.word, none.parts, none.weights, bool(none)), ("nobody", ((1, (2,)),), (1, (2,)), False))
        self.assertTrue(Nobody([1, 2]) == Nobody((Ratio(1), 2)) and Somebody(Pace([0])) == Somebody(Pace((Ratio(0),))))
        self.differs(Nobody([1]), [Nobody([2]), Nobody([]), Somebody([1]), Paper("nobody", [1]), Denial("nobody", [1])])
        self.assertIs(Somebody(None).pace, None)

    def test_weights_that_are_told_are_ratios(self):
        self.are_all_ratios(find_caller(THREE, [Row.ahead("c", "a")]).weights)

    def test_24_and_25_rows(self):
        rows = [Row.ahead("a", "c")] * 24
        self.assertTrue(find_caller(THREE, rows))
        self.refuses(TooMany("rows", 24), find_caller, THREE, [*rows, rows[0]])
        self.refuses(NoHappening("z"), find_caller, THREE, [*rows, Row.ahead("z", "a")])
        self.refuses(BadRow("rows"), find_caller, THREE, [*rows, None])

    def test_wrong_books_paces_rows(self):
        plane, strange = Pace.rest(2), [Row.ahead("z", "y"), Row.ahead("x", "a")]
        self.refuses_each(BadBook("book"), lambda value: keeps_rows(value, None, None), no_values())
        self.refuses_each(BadBook("book"), lambda value: find_caller(value, None), no_values())
        self.refuses_each(BadBook("book"), lambda value: weighted_step(value, None, None), no_values())
        self.refuses_each(BadPace("pace"), lambda value: keeps_rows(THREE, value, None), no_values())
        for call in (lambda rows: keeps_rows(THREE, plane, rows), lambda rows: find_caller(THREE, rows), lambda rows: weighted_step(THREE, rows, None)):
            self.refuses_each(BadRow("rows"), call, no_lists())
            for value in [*no_values(), GAP, AnyRow(), "> a -1 b 1"]:
                self.refuses(BadRow("rows"), call, [value])
                self.refuses(BadRow("rows"), call, (strange[0], value))
        self.refuses(Unlike("axes"), keeps_rows, THREE, plane, strange)
        self.refuses(NoHappening("x"), keeps_rows, THREE, Pace([0]), strange)
        self.refuses(NoHappening("x"), find_caller, THREE, strange)
        self.refuses(NoHappening("x"), weighted_step, THREE, strange, [])

    def test_wrong_weights(self):
        rows = [Row.ahead("a", "b"), Row.level("b", "z")]
        for value in no_lists():
            self.refuses(BadNumber("weights"), weighted_step, THREE, rows, value)
        for value in no_ratios():
            with self.subTest(value=short(value)):
                self.refuses(BadNumber("weights"), weighted_step, THREE, rows, [1, value])
        self.refuses(NoHappening("z"), weighted_step, THREE, rows, [1])
        for weights in ([], [1, 2], (1, 2)):
            self.refuses(Unlike("weights"), weighted_step, THREE, rows[:1], weights)
        self.refuses(Unlike("weights"), weighted_step, THREE, [], [1])

    def test_lists_that_are_passed_stay(self):
        rows, weights, order = [Row.ahead("a", "b")], [3], [["a"], ["b"]]
        find_caller(THREE, rows)
        weighted_step(THREE, rows, weights)
        order_rows(order)
        self.assertEqual((rows, weights, order), ([Row.ahead("a", "b")], [3], [["a"], ["b"]]))


GAP = Span.between("a", "b")


class OrderRows(Case):

    def test_neighbours(self):
        self.assertEqual(order_rows([["b", "a"], ["d", "c", "e"]]),
                         (Row.level("b", "a"), Row.ahead("a", "d"), Row.level("d", "c"), Row.level("c", "e")))
        self.assertEqual(order_rows(order=(("c",), ("b",), ("a",))), (Row.ahead("c", "b"), Row.ahead("b", "a")))
        self.assertEqual(order_rows([("q" * 12, "a")]), (Row.level("q" * 12, "a"),))
        self.assertIs(type(order_rows([["a"], ["b"]])), tuple)
        many = [[f"n{at}"] for at in range(60)]
        self.assertEqual(len(order_rows(many)), 59)

    def test_without_two_names(self):
        for order in ([], (), [["a"]], (("a",),)):
            self.assertEqual(order_rows(order), ())

    def test_wrong_orders(self):
        self.refuses_each(BadOrder("order"), order_rows, no_lists())
        self.refuses_each(BadOrder("order"), lambda value: order_rows([["a"], value, ["a"]]), [*no_lists(), [], ()])
        self.refuses_each(BadOrder("order"), lambda value: order_rows([["a", "a"], ["b", value]]), no_names())
        self.refuses(BadOrder("order"), order_rows, ["a", "b"])
        self.refuses(BadOrder("order"), order_rows, [[]])
        self.refuses(BadOrder("order"), order_rows, [[["a"]]])

    def test_a_name_twice(self):
        self.refuses(Twice("a"), order_rows, [["a", "b"], ["a", "b"]])
        self.refuses(Twice("b"), order_rows, [["a", "b", "b"], ["a"]])
        self.refuses(Twice("c"), order_rows, [["c", "c"]])
