"""Point 2: answers come in a short time. The bounds here are far above what is needed, and far below a search gone wrong."""

import random
import time

from helpers import Case
from own import is_clash, is_word, random_span
from own_riders import is_rider_word, random_rider_rows, rides
from test_callers import random_rows, rows_kept_by
from whosefirst.books import Book
from whosefirst.called import called_order
from whosefirst.callers import find_caller, keeps_rows
from whosefirst.carried import carried_book
from whosefirst.chains import fewest_messengers, longest_chain
from whosefirst.check_orders import shows_records
from whosefirst.check_telling import shows_longest, shows_messengers
from whosefirst.clashes import all_clashes, least_clash
from whosefirst.errors import BadText, Impossible
from whosefirst.flats import flats_of, orders_count
from whosefirst.moved import turned_book
from whosefirst.news import first_news, left_order
from whosefirst.orders import called_orders
from whosefirst.paces import Pace
from whosefirst.papers import fixed
from whosefirst.ratios import Ratio
from whosefirst.records import fewest_records
from whosefirst.rider_rows import RiderRow, SideRow
from whosefirst.rider_words import rider_word
from whosefirst.riders import Rider, rider_sight, seen_order_of
from whosefirst.rows import Row
from whosefirst.sayings import Saying, all_of, any_of, least_of, of_row
from whosefirst.spans import Span
from whosefirst.steps import Step
from whosefirst.stories import Story, held
from whosefirst.sure import fewest_struck, sure_paces, sure_row
from whosefirst.telling import apart_pairs, reached_pairs
from whosefirst.turns import way_between
from whosefirst.words import word_of

SIZES = ((1, 5), (2, 5), (3, 4))


def long_book(source, axes, many, digits):
    most = 10 ** digits - 1

    def ratio():
        return Ratio(source.randint(-most, most), source.randint(1, most))
    return Book(axes, {f"n{at}": (ratio(), [ratio() for _ in range(axes)]) for at in range(many)})


class Speed(Case):

    def setUp(self):
        self.begun = time.monotonic()

    def tearDown(self):
        self.assertLess(time.monotonic() - self.begun, 10)

    def test_eight_happenings_of_long_numbers(self):
        for axes in (1, 2, 3):
            book = long_book(random.Random(axes), axes, 8, 120)
            self.assertIs(shows_messengers(book, fewest_messengers(book)), True)
            self.assertIs(shows_longest(book, longest_chain(book)), True)
            self.assertEqual(len(reached_pairs(book)) + len(apart_pairs(book)), 28)
            self.assertEqual(sum(len(lot) for lot in called_order(book, Pace([Ratio(1, 10 ** 60)] * axes))), 8)
            self.assertEqual(Book(axes, {name: (carried_book(book, 3, 0).spot_of(name).time, book.spot_of(name).place) for name in book}).axes, axes)
            if axes == 1:
                self.assertEqual(len(left_order(book)), 8)
                self.assertEqual(first_news(book, list(book)).axes, 1)
            else:
                self.assertEqual(len(turned_book(book, 0, 1, Ratio(1, 7))), 8)

    def test_four_rows_and_more_of_six_digits(self):
        source = random.Random(4)
        for axes in (1, 2, 3):
            for many in (4, 5, 8):
                book = long_book(source, axes, many, 6)
                pace = Pace([Ratio(source.randint(-500000, 500000), 999983) for _ in range(axes)])
                for rows in (4, 24):
                    kept = rows_kept_by(source, book, pace, rows)
                    self.assertIs(keeps_rows(book, find_caller(book, kept).pace, kept), True)
                    self.assertIn(find_caller(book, random_rows(source, book, rows)).word, ("somebody", "nobody"))

    def test_24_rows_through_one_pace(self):
        # All these walls meet in one point: a search that goes from one to another must not come back.
        source = random.Random(5)
        book = Book(3, {"o": (0, [0, 0, 0]), **{f"n{at}": (Ratio(at, 9), [Ratio(at, 3), at * at % 5, at % 3]) for at in range(1, 8)}})
        for pace in (Pace([Ratio(1, 3), 0, 0]), Pace([Ratio(1, 3), Ratio(-1, 4), Ratio(1, 7)])):
            rows = rows_kept_by(source, book, pace, 24)
            self.assertTrue(find_caller(book, [Row(row.span, ">=") for row in rows]))

    def test_long_texts(self):
        names = sorted({f"{first}{second}{third}" for first in "abcdefghij" for second in "abcdefgh" for third in "abcdefgh"})
        source = random.Random(6)
        text = " ".join(f"{name} {Ratio(source.randint(1, 10 ** 60 - 1), source.randint(1, 10 ** 60 - 1))}" for name in names)
        self.reads_not(Span, {text: 2 * len(names)})
        self.assertEqual(len(Span.read(" ".join(f"{name} {-1 if at % 2 else 1}" for at, name in enumerate(names))).names), 640)
        for cls in (Ratio, Step, Span, Book, Row, Pace):
            for letter in ("9", "a", " ", "/", "-"):
                self.refuses(BadText(0, 0), cls.read, letter * 100000)
        self.refuses(BadText(0, 2), Step.read, "1 2 " + "9" * 99000)

    def test_words_and_clashes_of_four_rows(self):
        source = random.Random(7)
        for axes, many in SIZES * 3:
            book = long_book(source, axes, many, 6)
            pace = Pace([Ratio(source.randint(-500000, 500000), 999983) for _ in range(axes)])
            rows, given = random_rows(source, book, 4), rows_kept_by(source, book, pace, 4)
            sayings = [of_row(row) for row in rows]
            for saying in (all_of(*sayings), least_of(2, *sayings), any_of(*sayings) | ~any_of(*sayings)):
                for some in ([], given):
                    self.assertTrue(is_word(book, saying, some, word_of(book, saying, some)))
            self.assertTrue(is_clash(book, rows + given, least_clash(book, rows + given)))
            self.assertEqual(bool(all_clashes(book, rows + given)), not least_clash(book, rows + given))

    def test_all_orders_flats_and_records(self):
        source = random.Random(8)
        for axes, many in SIZES + ((1, 8),):
            for times in (1, Ratio(1, 10 ** 6)):
                book = long_book(source, axes, many, 6)
                book = Book(axes, {name: (book.spot_of(name).time * times, book.spot_of(name).place) for name in book})
                self.assertEqual(sum(len(called.order) == many for called in called_orders(book)), orders_count(book))
                self.assertEqual(sum(abs(flat.number) for flat in flats_of(book)), orders_count(book))
                few = book if axes != 2 else book.kept(book.names[:4])
                self.assertIs(shows_records(few, fewest_records(few)), True)
                ends = [Pace([part] * axes) for part in (Ratio(-500000, 999983), Ratio(499999, 999983))]
                self.assertTrue(way_between(book, *ends))

    def test_riders_of_3_rows_and_3_names(self):
        source = random.Random(9)
        words = set()
        for _ in range(12):
            book = long_book(source, 1, 5, 6)
            rows = [row for row in random_rider_rows(source, book, 30) if type(row) is RiderRow][:3]
            sayings = [of_row(row) for row in rows]
            rider = Rider(Pace([Ratio(source.randint(-999982, 999982), 999983)]), Ratio(source.randint(-999999, 999999), 999983))
            given = [SideRow(name, side) for name in book for side in ("left", "right") if rides(book, rider, [SideRow(name, side)])][:3]
            for saying in (all_of(*sayings), least_of(2, *sayings), all_of(*sayings) | ~any_of(*sayings), any_of(*sayings) | ~any_of(*sayings)):
                for some in ([], given, random_rider_rows(source, book, 3)):
                    try:
                        paper = rider_word(book, saying, some)
                    except Impossible as error:
                        paper = error.paper
                    self.assertTrue(is_rider_word(book, saying, some, paper))
                    words.add(paper.word)
        self.assertEqual(words, {"always", "never", "open"})

    def test_riders_of_8_happenings_and_long_numbers(self):
        book = long_book(random.Random(10), 1, 8, 120)
        rider = Rider(Pace([Ratio(10 ** 120 - 1, 10 ** 120)]), Ratio(7, 10 ** 90))
        self.assertEqual(len(seen_order_of(book, rider)), 8)
        self.assertEqual([rider_sight(book, rider, name).axes for name in book], [1] * 8)

    def test_stories_of_4_names_and_6_reports(self):
        source = random.Random(11)
        words = set()
        for axes in (1, 2, 3) * 4:
            paces = {f"t{at}": Pace([Ratio(source.randint(-500000, 500000), 999983 + at) for _ in range(axes)]) for at in range(6)}
            reports = [(source.choice(list(paces)), Row(random_span(source, list("abcd")), source.choice([">", ">=", "="]))) for _ in range(6)]
            story = Story(axes, list("abcd"), paces, reports)
            words.add(held(story).word)
            self.assertIsNotNone(fewest_struck(story).numbers)
            if held(story):
                words.add(sure_row(story, paces["t0"], reports[0][1]).word)
                if axes == 1:
                    sure_paces(story, reports[0][1].span)
        self.assertTrue({"held", "mixed"} <= words)

    def test_long_sayings(self):
        text = " / ".join(["row > a -1 b 1", *[f"not {at}" for at in range(8000)]])
        saying = Saying.read(text[:99990].rpartition(" / ")[0])
        self.assertGreater(len(saying), 7000)
        book = long_book(random.Random(12), 1, 2, 3).renamed({"n0": "a", "n1": "b"})
        self.assertIn(word_of(book, saying).word, ("always", "never", "open"))
        self.assertEqual(len(saying & saying), len(saying) + 1)
        wide = "yes / and" + " 0" * 49900
        self.assertEqual(len(Saying.read(wide).parts[1]), 49901)
        for letter in ("9", "a", " ", "/", "-"):
            for cls in (Saying, Rider, RiderRow, SideRow):
                self.refuses(BadText(0, 0), cls.read, letter * 100000)

    def test_great_values(self):
        self.assertEqual(len(fixed({at: [at] for at in range(20000)})), 20000)
        self.assertEqual(str(Ratio(10 ** 100000 + 1))[-3:], "001")
        self.assertEqual((Step(10 ** 20000, [1]) - Step(10 ** 20000, [0])).kind, "apart")
