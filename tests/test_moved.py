"""Point 5 and whosefirst/moved.py."""

import random

from helpers import Case, no_integers, no_ratios, no_values
from whosefirst.books import Book
from whosefirst.errors import BadBook, BadNumber, BadStep, Unlike
from whosefirst.moved import enlarged_book, mirrored_book, moved_book, time_turned, turned_book
from whosefirst.ratios import Ratio
from whosefirst.spans import Span
from whosefirst.steps import Step, product_of

HALF = Ratio(1, 2)


def some_books():
    source = random.Random(8)
    books = []
    for axes in (1, 2, 3):
        for many in (1, 4, 8):
            books.append(Book(axes, {f"n{at}": (Ratio(source.randint(-9, 9), 2), [at, *[source.randint(-5, 5) for _ in range(axes - 1)]])
                                     for at in range(many)}))
    return books


def steps_in(book):
    return {(one, other): book.step_of(Span.between(one, other)) for one in book for other in book}


OPPOSITE = {"forward": "backward", "backward": "forward", "apart": "apart", "nothing": "nothing"}


class Moved(Case):

    def test_moved(self):
        for book in some_books():
            step = Step(Ratio(-7, 3), [4, HALF, -1][:book.axes])
            moved = moved_book(book, step)
            self.assertEqual((moved.axes, moved.names), (book.axes, book.names))
            for name in book:
                self.assertEqual(moved.spot_of(name), book.spot_of(name) + step)
            self.assertEqual(steps_in(moved), steps_in(book))
            self.assertEqual(moved_book(step=-step, book=moved), book)

    def test_mirrored(self):
        for book in some_books():
            for axis in range(book.axes):
                mirrored = mirrored_book(book=book, axis=axis)
                for name in book:
                    spot, image = book.spot_of(name), mirrored.spot_of(name)
                    self.assertEqual(image.time, spot.time)
                    for at in range(book.axes):
                        self.assertEqual(image.place[at], -spot.place[at] if at == axis else spot.place[at])
                self.keeps_products(book, mirrored)
                self.assertEqual(mirrored_book(mirrored, axis), book)

    def test_time_turned(self):
        for book in some_books():
            turned = time_turned(book=book)
            for name in book:
                self.assertEqual(turned.spot_of(name), Step(-book.spot_of(name).time, book.spot_of(name).place))
            elder, new = steps_in(book), steps_in(turned)
            for pair in elder:
                self.assertEqual(new[pair].square, elder[pair].square)
                self.assertEqual(new[pair].kind, OPPOSITE[elder[pair].kind])
            self.assertEqual(time_turned(turned), book)

    def test_turned(self):
        for book in some_books():
            for one in range(book.axes):
                for other in range(book.axes):
                    for ratio in (0, 1, -1, HALF, Ratio(-7, 3), 10 ** 30):
                        if one != other:
                            self.is_turned(book, one, other, Ratio.of(ratio))

    def is_turned(self, book, one, other, ratio):
        turned = turned_book(book, one, other, ratio)
        whole = ratio * ratio + 1
        cosine, sine = (Ratio(1) - ratio * ratio).over(whole), (ratio * 2).over(whole)
        for name in book:
            spot, image = book.spot_of(name), turned.spot_of(name)
            self.assertEqual(image.time, spot.time)
            self.assertEqual(image.place[one], cosine * spot.place[one] - sine * spot.place[other])
            self.assertEqual(image.place[other], sine * spot.place[one] + cosine * spot.place[other])
            for at in range(book.axes):
                if at not in (one, other):
                    self.assertEqual(image.place[at], spot.place[at])
        self.keeps_products(book, turned)
        self.assertEqual(turned_book(turned, one, other, -ratio), book)
        self.assertEqual(turned_book(ratio=ratio, other=one, one=other, book=turned), book)

    def keeps_products(self, book, image):
        elder, new = steps_in(book), steps_in(image)
        for pair in elder:
            self.assertEqual(new[pair].time, elder[pair].time)
            self.assertEqual(new[pair].kind, elder[pair].kind)
            for more in elder:
                self.assertEqual(product_of(new[pair], new[more]), product_of(elder[pair], elder[more]))

    def test_quarter_turns(self):
        book = Book(2, {"a": (0, [5, 2])})
        self.assertEqual(str(turned_book(book, 0, 1, 1)), "2 a 0 -2 5")
        self.assertEqual(str(turned_book(book, 1, 0, 1)), "2 a 0 2 -5")
        self.assertEqual(str(turned_book(Book(3, {"a": (0, [5, 7, 2])}), 2, 0, 1)), "3 a 0 2 7 -5")

    def test_enlarged(self):
        for book in some_books():
            for ratio in (1, 3, HALF, Ratio(7, 10 ** 40)):
                large = enlarged_book(times=ratio, book=book)
                for name in book:
                    self.assertEqual(large.spot_of(name), book.spot_of(name) * ratio)
                self.assertEqual(enlarged_book(large, Ratio(1).over(ratio)), book)

    def test_wrong_books_come_first(self):
        for call in (moved_book, mirrored_book, enlarged_book):
            self.refuses_each(BadBook("book"), lambda value: call(value, None), no_values())
        self.refuses_each(BadBook("book"), time_turned, no_values())
        self.refuses_each(BadBook("book"), lambda value: turned_book(value, None, None, None), no_values())

    def test_wrong_steps(self):
        book = Book(1, {"a": (0, [0])})
        self.refuses_each(BadStep("step"), lambda value: moved_book(book, value), [*no_values(), book])
        self.refuses(Unlike("axes"), moved_book, book, Step(0, [0, 0]))
        self.refuses(Unlike("axes"), moved_book, Book(3, {"a": (0, [0, 0, 0])}), Step(0, [0, 0]))

    def test_wrong_axes(self):
        for axes in (1, 2, 3):
            book = Book(axes, {"a": (0, [0] * axes)})
            wrong = [*no_integers(), -1, axes, axes + 1, 10 ** 30]
            self.refuses_each(BadNumber("axis"), lambda value: mirrored_book(book, value), wrong)
            self.refuses_each(BadNumber("one"), lambda value: turned_book(book, value, None, None), wrong)
            self.refuses_each(BadNumber("other"), lambda value: turned_book(book, 0, value, None), [*wrong, 0])
            self.refuses(BadNumber("other"), turned_book, book, axes - 1, axes - 1, 1)

    def test_wrong_ratios(self):
        book = Book(2, {"a": (0, [0, 1])})
        self.refuses_each(BadNumber("ratio"), lambda value: turned_book(book, 0, 1, value), no_ratios())
        self.refuses_each(BadNumber("times"), lambda value: enlarged_book(book, value), [*no_ratios(), 0, -1, Ratio(-1, 10 ** 9), Ratio(0)])
