"""Points 8 and 9, whosefirst/called.py and whosefirst/carried.py."""

import random

from helpers import Case, no_integers, no_ratios, no_values
from test_moved import OPPOSITE, some_books
from whosefirst.books import Book
from whosefirst.called import called_order, called_quotient, called_sign, called_worth
from whosefirst.carried import carried_book, carried_pace, mirrored_pace, turned_pace
from whosefirst.errors import BadBook, BadNumber, BadPace, BadSpan, NoHappening, Unlike
from whosefirst.moved import enlarged_book, mirrored_book, moved_book, time_turned, turned_book
from whosefirst.paces import Pace
from whosefirst.ratios import Ratio
from whosefirst.spans import Span
from whosefirst.steps import Step, product_of

HALF = Ratio(1, 2)
ROAD = Book(1, {"a": (0, [0]), "b": (1, [3]), "c": (2, [1])})
GAP = Span.between("a", "b")


def some_paces(axes):
    source = random.Random(axes)
    near = Ratio(10 ** 9 - 1, 10 ** 9)
    paces = [Pace.rest(axes), *[Pace([near if at == axis else 0 for at in range(axes)]) for axis in range(axes)]]
    while len(paces) < 9:
        parts = [Ratio(source.randint(-6, 6), 7) for _ in range(axes)]
        if sum(part.top ** 2 * (49 // part.bottom ** 2) for part in parts) < 49:
            paces.append(Pace(parts))
    return paces


def own_worth(book, pace, span):
    """The worth of a span as a sum over its names, each with its own time less pace times place."""
    total = Ratio(0)
    for name, times in span.terms:
        spot = book.spot_of(name)
        total = total + spot.time * times
        for part, number in zip(pace.parts, spot.place):
            total = total - part * number * times
    return total


class Called(Case):

    def test_worths_and_signs(self):
        source = random.Random(1)
        for book in some_books():
            for pace in some_paces(book.axes):
                terms = {name: source.randint(-3, 3) for name in book}
                terms[book.names[0]] -= sum(terms.values())
                for span in (Span(terms), Span.between(book.names[0], book.names[-1]), Span({})):
                    worth = called_worth(book, pace, span)
                    self.assertIs(type(worth), Ratio)
                    self.assertEqual(worth, own_worth(book, pace, span))
                    self.assertIs(type(called_sign(book, pace, span)), int)
                    self.assertEqual(called_sign(book, pace, span), worth.sign)
        self.assertEqual(called_sign(span=GAP, pace=Pace([HALF]), book=ROAD), -1)
        self.assertEqual(called_worth(span=GAP, pace=Pace([HALF]), book=ROAD), -HALF)

    def test_orders(self):
        for book in some_books():
            for pace in some_paces(book.axes):
                order = called_order(pace=pace, book=book)
                self.assertEqual(sorted(name for lot in order for name in lot), list(book))
                self.assertIs(type(order), tuple)
                places = {name: at for at, lot in enumerate(order) for name in lot}
                for lot in order:
                    self.assertIs(type(lot), tuple)
                    self.assertEqual(list(lot), sorted(lot))
                for one in book:
                    for other in book:
                        sign = (places[other] > places[one]) - (places[other] < places[one])
                        self.assertEqual(own_worth(book, pace, Span.between(one, other)).sign, sign)

    def test_every_traveller_calls_forward_steps_late(self):
        for book in some_books():
            for pace in some_paces(book.axes):
                for one in book:
                    for other in book:
                        kind = (book.spot_of(other) - book.spot_of(one)).kind
                        if kind != "apart":
                            due = {"forward": 1, "backward": -1, "nothing": 0}[kind]
                            self.assertEqual(called_sign(book, pace, Span.between(one, other)), due)

    def test_shares_of_the_way(self):
        for book in some_books():
            paces = some_paces(book.axes)
            for one, other in zip(paces, paces[1:]):
                span = Span.between(book.names[0], book.names[-1])
                begin, end = called_worth(book, one, span), called_worth(book, other, span)
                for share in (0, Ratio(1, 3), 1):
                    self.assertEqual(called_worth(book, one.mixed(other, share), span), begin + (end - begin) * share)

    def test_level_happenings(self):
        self.assertEqual(called_order(ROAD, Pace([Ratio(1, 3)])), (("a", "b"), ("c",)))
        self.assertEqual(called_order(ROAD, Pace([HALF])), (("b",), ("a",), ("c",)))
        self.assertEqual(called_order(Book(1, {"z": (0, [1]), "y": (0, [0]), "x": (0, [5])}), Pace.rest(1)), (("x", "y", "z"),))
        self.assertEqual(called_order(Book(3, {"z": (0, [0, 0, 1])}), Pace.rest(3)), (("z",),))

    def test_quotients(self):
        long = Span.between("a", "c")
        self.is_ratio(called_quotient(ROAD, Pace.rest(1), long, GAP), 2)
        self.is_ratio(called_quotient(ROAD, Pace.rest(1), GAP, long), 1, 2)
        self.is_ratio(called_quotient(other=long, one=-GAP, pace=Pace([HALF]), book=ROAD), 1, 3)
        self.is_ratio(called_quotient(ROAD, Pace([Ratio(1, 3)]), GAP, long), 0)
        self.assertIsNone(called_quotient(ROAD, Pace([Ratio(1, 3)]), long, GAP))
        self.assertIsNone(called_quotient(ROAD, Pace([Ratio(1, 3)]), GAP, GAP))
        self.assertIsNone(called_quotient(ROAD, Pace.rest(1), GAP, Span({})))
        self.is_ratio(called_quotient(ROAD, Pace.rest(1), Span({}), GAP), 0)

    def test_wrong_values(self):
        plane = Pace.rest(2)
        for call in (called_worth, called_sign):
            self.refuses_each(BadBook("book"), lambda value: call(value, None, None), no_values())
            self.refuses_each(BadPace("pace"), lambda value: call(ROAD, value, None), no_values())
            self.refuses_each(BadSpan("span"), lambda value: call(ROAD, plane, value), no_values())
            self.refuses(Unlike("axes"), call, ROAD, plane, Span.between("z", "y"))
            self.refuses(NoHappening("y"), call, ROAD, Pace([0]), Span({"z": 1, "y": 1, "a": -2}))
        self.refuses_each(BadBook("book"), lambda value: called_order(value, None), no_values())
        self.refuses_each(BadPace("pace"), lambda value: called_order(ROAD, value), no_values())
        self.refuses(Unlike("axes"), called_order, ROAD, plane)

    def test_wrong_values_for_quotients(self):
        plane, strange, stranger = Pace.rest(2), Span({"z": 1, "y": 1, "a": -2}), Span.between("a", "d")
        self.refuses_each(BadBook("book"), lambda value: called_quotient(value, None, None, None), no_values())
        self.refuses_each(BadPace("pace"), lambda value: called_quotient(ROAD, value, None, None), no_values())
        self.refuses_each(BadSpan("one"), lambda value: called_quotient(ROAD, plane, value, None), no_values())
        self.refuses_each(BadSpan("other"), lambda value: called_quotient(ROAD, plane, strange, value), no_values())
        self.refuses(Unlike("axes"), called_quotient, ROAD, plane, strange, GAP)
        self.refuses(NoHappening("y"), called_quotient, ROAD, Pace([0]), strange, stranger)
        self.refuses(NoHappening("d"), called_quotient, ROAD, Pace([0]), stranger, strange)
        self.refuses(NoHappening("d"), called_quotient, ROAD, Pace([0]), GAP, stranger)
        self.refuses(NoHappening("d"), called_quotient, ROAD, Pace([0]), stranger, Span({}))


class Carried(Case):

    def test_books(self):
        self.assertEqual(str(carried_book(ROAD, 2, 0)), "1 a 0 0 / b -1 3 / c 7/4 -1/4")
        for book in some_books():
            for axis in range(book.axes):
                for ratio in (1, 2, Ratio(1, 3), Ratio(10 ** 20, 7)):
                    carried = carried_book(axis=axis, ratio=ratio, book=book)
                    self.assertEqual((carried.axes, carried.names), (book.axes, book.names))
                    for name in book:
                        self.is_carried(book.spot_of(name), carried.spot_of(name), Ratio.of(ratio), axis)
                    self.assertEqual(carried_book(carried, Ratio(1).over(ratio), axis), book)
                    self.assertEqual(carried_book(carried, 3, axis), carried_book(book, Ratio.of(ratio) * 3, axis))

    def is_carried(self, elder, new, ratio, axis):
        self.assertEqual(new.time - new.place[axis], (elder.time - elder.place[axis]) * ratio)
        self.assertEqual(new.time + new.place[axis], (elder.time + elder.place[axis]).over(ratio))
        for at in range(elder.axes):
            if at != axis:
                self.assertEqual(new.place[at], elder.place[at])
        self.assertEqual((new.square, new.kind), (elder.square, elder.kind))

    def test_products_stay(self):
        for book in some_books():
            carried = carried_book(book, Ratio(5, 2), book.axes - 1)
            for one in book:
                for other in book:
                    self.assertEqual(product_of(carried.spot_of(one), carried.spot_of(other)), product_of(book.spot_of(one), book.spot_of(other)))

    def test_by_1_all_stays(self):
        for book in some_books():
            self.assertEqual(carried_book(book, 1, 0), book)
            for pace in some_paces(book.axes):
                self.assertEqual(carried_pace(pace, 1, 0), pace)

    def test_paces(self):
        for axes in (1, 2, 3):
            for pace in some_paces(axes):
                for axis in range(axes):
                    for ratio in (2, Ratio(3, 7)):
                        carried = carried_pace(axis=axis, ratio=ratio, pace=pace)
                        time = ((pace.parts[axis] + 1).over(ratio) + (Ratio(1) - pace.parts[axis]) * ratio) * HALF
                        place = ((pace.parts[axis] + 1).over(ratio) - (Ratio(1) - pace.parts[axis]) * ratio) * HALF
                        for at in range(axes):
                            self.assertEqual(carried.parts[at] * time, place if at == axis else pace.parts[at])
                        self.assertEqual(carried_pace(carried, Ratio(1).over(ratio), axis), pace)

    def test_ratios_of_beats_are_parted(self):
        for axes in (1, 2, 3):
            for axis in range(axes):
                pace = Pace.of_beats(Ratio(7, 2), axes, axis)
                self.assertEqual(carried_pace(pace, 3, axis), Pace.of_beats(Ratio(7, 6), axes, axis))
                self.assertEqual(carried_pace(pace, Ratio(7, 2), axis), Pace.rest(axes))

    def test_carried_travellers_call_carried_books_in_the_elder_order(self):
        for book in some_books():
            for pace in some_paces(book.axes):
                for axis in range(book.axes):
                    self.assertEqual(called_order(carried_book(book, 3, axis), carried_pace(pace, 3, axis)), called_order(book, pace))
                span, more = Span.between(book.names[0], book.names[-1]), Span.between(book.names[-1], book.names[len(book) // 2])
                self.assertEqual(called_quotient(carried_book(book, HALF, 0), carried_pace(pace, HALF, 0), span, more),
                                 called_quotient(book, pace, span, more))

    def test_mirrored_and_turned_paces(self):
        self.assertEqual(mirrored_pace(Pace([HALF, Ratio(1, 3), 0]), 1), Pace([HALF, Ratio(-1, 3), 0]))
        self.assertEqual(turned_pace(Pace([HALF, 0]), 0, 1, HALF), Pace([Ratio(3, 10), Ratio(2, 5)]))
        self.assertEqual(turned_pace(ratio=1, other=0, one=2, pace=Pace([HALF, 0, Ratio(1, 3)])), Pace([Ratio(1, 3), 0, -HALF]))
        for book in some_books():
            for pace in some_paces(book.axes):
                order = called_order(book, pace)
                for axis in range(book.axes):
                    self.assertEqual(called_order(mirrored_book(book, axis), mirrored_pace(axis=axis, pace=pace)), order)
                    self.assertEqual(mirrored_pace(mirrored_pace(pace, axis), axis), pace)
                    if axis > 0:
                        turned = turned_pace(pace, axis, axis - 1, Ratio(-5, 3))
                        self.assertEqual(turned.square, pace.square)
                        self.assertEqual(called_order(turned_book(book, axis, axis - 1, Ratio(-5, 3)), turned), order)
                        self.assertEqual(turned_pace(turned, axis - 1, axis, Ratio(-5, 3)), pace)

    def test_moved_enlarged_and_turned_in_time(self):
        for book in some_books():
            for pace in some_paces(book.axes):
                order = called_order(book, pace)
                self.assertEqual(called_order(moved_book(book, Step(3, [HALF] * book.axes)), pace), order)
                self.assertEqual(called_order(enlarged_book(book, Ratio(3, 7)), pace), order)
                self.assertEqual(called_order(time_turned(book), -pace), order[::-1])
        self.assertEqual(OPPOSITE["forward"], "backward")

    def test_wrong_values(self):
        for axes in (1, 2, 3):
            book, pace = Book(axes, {"a": (0, [0] * axes)}), Pace.rest(axes)
            axis = [*no_integers(), -1, axes, axes + 5]
            for call, value, error in ((carried_book, book, BadBook("book")), (carried_pace, pace, BadPace("pace"))):
                self.refuses_each(error, lambda wrong: call(wrong, None, None), no_values())
                self.refuses_each(BadNumber("ratio"), lambda wrong: call(value, wrong, None), [*no_ratios(), 0, -1, Ratio(0), Ratio(-1, 9)])
                self.refuses_each(BadNumber("axis"), lambda wrong: call(value, 1, wrong), axis)
            self.refuses_each(BadPace("pace"), lambda wrong: mirrored_pace(wrong, None), no_values())
            self.refuses_each(BadNumber("axis"), lambda wrong: mirrored_pace(pace, wrong), axis)
            self.refuses_each(BadPace("pace"), lambda wrong: turned_pace(wrong, None, None, None), no_values())
            self.refuses_each(BadNumber("one"), lambda wrong: turned_pace(pace, wrong, None, None), axis)
            self.refuses_each(BadNumber("other"), lambda wrong: turned_pace(pace, 0, wrong, None), [*axis, 0])
            self.refuses(BadNumber("other"), turned_pace, pace, axes - 1, axes - 1, 1)
        self.refuses_each(BadNumber("ratio"), lambda wrong: turned_pace(Pace.rest(2), 1, 0, wrong), no_ratios())
