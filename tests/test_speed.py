"""Point 2: answers come in a short time. The bounds here are far above what is needed, and far below a search gone wrong."""

import random
import time

from helpers import Case
from test_callers import random_rows, rows_kept_by
from whosefirst.books import Book
from whosefirst.called import called_order
from whosefirst.callers import find_caller, keeps_rows
from whosefirst.carried import carried_book
from whosefirst.chains import fewest_messengers, longest_chain
from whosefirst.check_telling import shows_longest, shows_messengers
from whosefirst.errors import BadText
from whosefirst.moved import turned_book
from whosefirst.news import first_news, left_order
from whosefirst.paces import Pace
from whosefirst.papers import fixed
from whosefirst.ratios import Ratio
from whosefirst.rows import Row
from whosefirst.spans import Span
from whosefirst.steps import Step
from whosefirst.telling import apart_pairs, reached_pairs


def long_book(source, axes, many, digits):
    most = 10 ** digits - 1

    def ratio():
        return Ratio(source.randint(-most, most), source.randint(1, most))
    return Book(axes, {f"n{at}": (ratio(), [ratio() for _ in range(axes)]) for at in range(many)})


class Speed(Case):

    def setUp(self):
        self.begun = time.monotonic()

    def tearDown(self):
        self.assertLess(time.monotonic() - self.begun, 10)

    def test_eight_happenings_of_long_numbers(self):
        for axes in (1, 2, 3):
            book = long_book(random.Random(axes), axes, 8, 120)
            self.assertIs(shows_messengers(book, fewest_messengers(book)), True)
            self.assertIs(shows_longest(book, longest_chain(book)), True)
            self.assertEqual(len(reached_pairs(book)) + len(apart_pairs(book)), 28)
            self.assertEqual(sum(len(lot) for lot in called_order(book, Pace([Ratio(1, 10 ** 60)] * axes))), 8)
            self.assertEqual(Book(axes, {name: (carried_book(book, 3, 0).spot_of(name).time, book.spot_of(name).place) for name in book}).axes, axes)
            if axes == 1:
                self.assertEqual(len(left_order(book)), 8)
                self.assertEqual(first_news(book, list(book)).axes, 1)
            else:
                self.assertEqual(len(turned_book(book, 0, 1, Ratio(1, 7))), 8)

    def test_four_rows_and_more_of_six_digits(self):
        source = random.Random(4)
        for axes in (1, 2, 3):
            for many in (4, 5, 8):
                book = long_book(source, axes, many, 6)
                pace = Pace([Ratio(source.randint(-500000, 500000), 999983) for _ in range(axes)])
                for rows in (4, 24):
                    kept = rows_kept_by(source, book, pace, rows)
                    self.assertIs(keeps_rows(book, find_caller(book, kept).pace, kept), True)
                    self.assertIn(find_caller(book, random_rows(source, book, rows)).word, ("somebody", "nobody"))

    def test_24_rows_through_one_pace(self):
        # All these walls meet in one point: a search that goes from one to another must not come back.
        source = random.Random(5)
        book = Book(3, {"o": (0, [0, 0, 0]), **{f"n{at}": (Ratio(at, 9), [Ratio(at, 3), at * at % 5, at % 3]) for at in range(1, 8)}})
        for pace in (Pace([Ratio(1, 3), 0, 0]), Pace([Ratio(1, 3), Ratio(-1, 4), Ratio(1, 7)])):
            rows = rows_kept_by(source, book, pace, 24)
            self.assertTrue(find_caller(book, [Row(row.span, ">=") for row in rows]))

    def test_long_texts(self):
        names = sorted({f"{first}{second}{third}" for first in "abcdefghij" for second in "abcdefgh" for third in "abcdefgh"})
        source = random.Random(6)
        text = " ".join(f"{name} {Ratio(source.randint(1, 10 ** 60 - 1), source.randint(1, 10 ** 60 - 1))}" for name in names)
        self.reads_not(Span, {text: 2 * len(names)})
        self.assertEqual(len(Span.read(" ".join(f"{name} {-1 if at % 2 else 1}" for at, name in enumerate(names))).names), 640)
        for cls in (Ratio, Step, Span, Book, Row, Pace):
            for letter in ("9", "a", " ", "/", "-"):
                self.refuses(BadText(0, 0), cls.read, letter * 100000)
        self.refuses(BadText(0, 2), Step.read, "1 2 " + "9" * 99000)

    def test_great_values(self):
        self.assertEqual(len(fixed({at: [at] for at in range(20000)})), 20000)
        self.assertEqual(str(Ratio(10 ** 100000 + 1))[-3:], "001")
        self.assertEqual((Step(10 ** 20000, [1]) - Step(10 ** 20000, [0])).kind, "apart")
