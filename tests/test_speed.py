"""Point 2: answers come in a short time. The bounds here are far above what is needed, and far below a search gone wrong."""

import random
import time

from helpers import Case
from own import is_clash, is_word, random_span
from own_eyes import EIGHT, is_eye_word
from own_riders import is_rider_word, random_rider_rows, rides
from own_stories import is_held, is_struck, is_sure
from own_tables import CROWN, is_placed, random_road
from test_callers import random_rows, rows_kept_by
from test_eye_words import random_seen_saying
from test_passers import is_passers, random_account
from whosefirst.books import Book
from whosefirst.called import called_order
from whosefirst.callers import find_caller, keeps_rows
from whosefirst.carried import carried_book
from whosefirst.beats import echo_beats, middle_beats
from whosefirst.chains import fewest_messengers, longest_chain
from whosefirst.check_orders import shows_records
from whosefirst.check_telling import shows_longest, shows_messengers
from whosefirst.clashes import all_clashes, least_clash
from whosefirst.clocks import Tour, age_of_news, spot_at, straight_square
from whosefirst.desk import Desk
from whosefirst.errors import BadText, Impossible
from whosefirst.eye_words import SeenRow, eye_word
from whosefirst.flats import flats_of, orders_count
from whosefirst.moved import turned_book
from whosefirst.news import first_news, left_order
from whosefirst.orders import called_orders
from whosefirst.paces import Pace
from whosefirst.papers import fixed
from whosefirst.parts import all_patterns, bond_of, patterns_count, turned_parts
from whosefirst.passers import fewest_passers, stretch_of
from whosefirst.placed import pattern_of, placed, placed_as
from whosefirst.ratios import Ratio
from whosefirst.records import fewest_records
from whosefirst.resting import resting_orders
from whosefirst.rider_rows import RiderRow, SideRow, seen_ahead, seen_first, seen_last, seen_with
from whosefirst.rider_words import rider_word
from whosefirst.riders import Rider, rider_sight, seen_order_of
from whosefirst.rows import Row
from whosefirst.sayings import Saying, all_of, any_of, least_of, of_row
from whosefirst.seen import find_eye
from whosefirst.seen_counts import number_seen, seen_count, seen_number
from whosefirst.spans import Span
from whosefirst.steps import Step
from whosefirst.stories import Story, held
from whosefirst.sure import fewest_struck, sure_paces, sure_row
from whosefirst.tables import Table, apart_in
from whosefirst.telling import apart_pairs, reached_pairs
from whosefirst.turns import way_between
from whosefirst.weaves import Weave
from whosefirst.words import word_of

SIZES = ((1, 5), (2, 5), (3, 4))
LONG_RIDERS = (
    Book(1, {"a": (Ratio(-459649, 895566), [Ratio(-9360059, 578712)]), "b": (Ratio(533807, 251067), [Ratio(254413, 549882)]),
             "c": (Ratio(274027, 889753), [Ratio(9198997, 353518)])}),
    of_row(RiderRow(Span.between("a", "c"), Span.between("c", "a") * Ratio(-390363, 703027) + Span.between("b", "a") * Ratio(711662, 835509), ">"))
    | of_row(Row(Span.between("a", "b"), ">=")) | ~of_row(Row(Span.between("a", "b"), "=")))
SMALL_RIDERS = (
    Book(1, {"a": (2, [0]), "b": (Ratio(2, 3), [-5]), "c": (-6, [5])}),
    (of_row(RiderRow(Span.between("a", "b") * 3 + Span.between("c", "b"), Span.between("b", "a"), "="))
     | ~of_row(RiderRow(Span({}), Span.between("b", "c") * -2, ">")))
    & of_row(RiderRow(Span.between("c", "a"), Span.between("b", "c") * -1 + Span.between("b", "a") * 3, "=")))


def shortest(call, tries=5):
    """The least time that a call takes, of some tries, as the machine may be busy with something else."""
    times = []
    for _ in range(tries):
        begun = time.perf_counter()
        call()
        times.append(time.perf_counter() - begun)
    return min(times)


def long_book(source, axes, many, digits):
    most = 10 ** digits - 1

    def ratio():
        return Ratio(source.randint(-most, most), source.randint(1, most))
    return Book(axes, {f"n{at}": (ratio(), [ratio() for _ in range(axes)]) for at in range(many)})


class Speed(Case):

    def setUp(self):
        self.begun = time.monotonic()

    def tearDown(self):
        self.assertLess(time.monotonic() - self.begun, 10)

    def test_eight_happenings_of_long_numbers(self):
        for axes in (1, 2, 3):
            book = long_book(random.Random(axes), axes, 8, 120)
            self.assertIs(shows_messengers(book, fewest_messengers(book)), True)
            self.assertIs(shows_longest(book, longest_chain(book)), True)
            self.assertEqual(len(reached_pairs(book)) + len(apart_pairs(book)), 28)
            self.assertEqual(sum(len(lot) for lot in called_order(book, Pace([Ratio(1, 10 ** 60)] * axes))), 8)
            self.assertEqual(Book(axes, {name: (carried_book(book, 3, 0).spot_of(name).time, book.spot_of(name).place) for name in book}).axes, axes)
            if axes == 1:
                self.assertEqual(len(left_order(book)), 8)
                self.assertEqual(first_news(book, list(book)).axes, 1)
            else:
                self.assertEqual(len(turned_book(book, 0, 1, Ratio(1, 7))), 8)

    def test_four_rows_and_more_of_six_digits(self):
        source = random.Random(4)
        for axes in (1, 2, 3):
            for many in (4, 5, 8):
                book = long_book(source, axes, many, 6)
                pace = Pace([Ratio(source.randint(-500000, 500000), 999983) for _ in range(axes)])
                for rows in (4, 24):
                    kept = rows_kept_by(source, book, pace, rows)
                    self.assertIs(keeps_rows(book, find_caller(book, kept).pace, kept), True)
                    self.assertIn(find_caller(book, random_rows(source, book, rows)).word, ("somebody", "nobody"))

    def test_24_rows_through_one_pace(self):
        # All these walls meet in one point: a search that goes from one to another must not come back.
        source = random.Random(5)
        book = Book(3, {"o": (0, [0, 0, 0]), **{f"n{at}": (Ratio(at, 9), [Ratio(at, 3), at * at % 5, at % 3]) for at in range(1, 8)}})
        for pace in (Pace([Ratio(1, 3), 0, 0]), Pace([Ratio(1, 3), Ratio(-1, 4), Ratio(1, 7)])):
            rows = rows_kept_by(source, book, pace, 24)
            self.assertTrue(find_caller(book, [Row(row.span, ">=") for row in rows]))

    def test_long_texts(self):
        names = sorted({f"{first}{second}{third}" for first in "abcdefghij" for second in "abcdefgh" for third in "abcdefgh"})
        source = random.Random(6)
        text = " ".join(f"{name} {Ratio(source.randint(1, 10 ** 60 - 1), source.randint(1, 10 ** 60 - 1))}" for name in names)
        self.reads_not(Span, {text: 2 * len(names)})
        self.assertEqual(len(Span.read(" ".join(f"{name} {-1 if at % 2 else 1}" for at, name in enumerate(names))).names), 640)
        for cls in (Ratio, Step, Span, Book, Row, Pace):
            for letter in ("9", "a", " ", "/", "-"):
                self.refuses(BadText(0, 0), cls.read, letter * 100000)
        self.refuses(BadText(0, 2), Step.read, "1 2 " + "9" * 99000)

    def test_words_and_clashes_of_four_rows(self):
        source = random.Random(7)
        for axes, many in SIZES * 3:
            book = long_book(source, axes, many, 6)
            pace = Pace([Ratio(source.randint(-500000, 500000), 999983) for _ in range(axes)])
            rows, given = random_rows(source, book, 4), rows_kept_by(source, book, pace, 4)
            sayings = [of_row(row) for row in rows]
            for saying in (all_of(*sayings), least_of(2, *sayings), any_of(*sayings) | ~any_of(*sayings)):
                for some in ([], given):
                    self.assertTrue(is_word(book, saying, some, word_of(book, saying, some)))
            self.assertTrue(is_clash(book, rows + given, least_clash(book, rows + given)))
            self.assertEqual(bool(all_clashes(book, rows + given)), not least_clash(book, rows + given))

    def test_all_orders_flats_and_records(self):
        source = random.Random(8)
        for axes, many in SIZES + ((1, 8),):
            for times in (1, Ratio(1, 10 ** 6)):
                book = long_book(source, axes, many, 6)
                book = Book(axes, {name: (book.spot_of(name).time * times, book.spot_of(name).place) for name in book})
                self.assertEqual(sum(len(called.order) == many for called in called_orders(book)), orders_count(book))
                self.assertEqual(sum(abs(flat.number) for flat in flats_of(book)), orders_count(book))
                few = book if axes != 2 else book.kept(book.names[:4])
                self.assertIs(shows_records(few, fewest_records(few)), True)
                ends = [Pace([part] * axes) for part in (Ratio(-500000, 999983), Ratio(499999, 999983))]
                self.assertTrue(way_between(book, *ends))

    def test_riders_of_3_rows_and_3_names(self):
        source = random.Random(9)
        words = set()
        for _ in range(12):
            book = long_book(source, 1, 5, 6)
            rows = [row for row in random_rider_rows(source, book, 30) if type(row) is RiderRow][:3]
            sayings = [of_row(row) for row in rows]
            rider = Rider(Pace([Ratio(source.randint(-999982, 999982), 999983)]), Ratio(source.randint(-999999, 999999), 999983))
            given = [SideRow(name, side) for name in book for side in ("left", "right") if rides(book, rider, [SideRow(name, side)])][:3]
            for saying in (all_of(*sayings), least_of(2, *sayings), all_of(*sayings) | ~any_of(*sayings), any_of(*sayings) | ~any_of(*sayings)):
                for some in ([], given, random_rider_rows(source, book, 3)):
                    try:
                        paper = rider_word(book, saying, some)
                    except Impossible as error:
                        paper = error.paper
                    self.assertTrue(is_rider_word(book, saying, some, paper))
                    words.add(paper.word)
        self.assertEqual(words, {"always", "never", "open"})

    def test_riders_of_8_happenings_and_long_numbers(self):
        book = long_book(random.Random(10), 1, 8, 120)
        rider = Rider(Pace([Ratio(10 ** 120 - 1, 10 ** 120)]), Ratio(7, 10 ** 90))
        self.assertEqual(len(seen_order_of(book, rider)), 8)
        self.assertEqual([rider_sight(book, rider, name).axes for name in book], [1] * 8)

    def test_stories_of_4_names_and_6_reports(self):
        source = random.Random(11)
        words = set()
        for axes in (1, 2, 3) * 4:
            paces = {f"t{at}": Pace([Ratio(source.randint(-500000, 500000), 999983 + at) for _ in range(axes)]) for at in range(6)}
            reports = [(source.choice(list(paces)), Row(random_span(source, list("abcd")), source.choice([">", ">=", "="]))) for _ in range(6)]
            story = Story(axes, list("abcd"), paces, reports)
            words.add(held(story).word)
            self.assertIsNotNone(fewest_struck(story).numbers)
            if held(story):
                words.add(sure_row(story, paces["t0"], reports[0][1]).word)
                if axes == 1:
                    sure_paces(story, reports[0][1].span)
        self.assertTrue({"held", "mixed"} <= words)

    def test_long_sayings(self):
        text = " / ".join(["row > a -1 b 1", *[f"not {at}" for at in range(8000)]])
        saying = Saying.read(text[:99990].rpartition(" / ")[0])
        self.assertGreater(len(saying), 7000)
        book = long_book(random.Random(12), 1, 2, 3).renamed({"n0": "a", "n1": "b"})
        self.assertIn(word_of(book, saying).word, ("always", "never", "open"))
        self.assertEqual(len(saying & saying), len(saying) + 1)
        wide = "yes / and" + " 0" * 49900
        self.assertEqual(len(Saying.read(wide).parts[1]), 49901)
        for letter in ("9", "a", " ", "/", "-"):
            for cls in (Saying, Rider, RiderRow, SideRow):
                self.refuses(BadText(0, 0), cls.read, letter * 100000)

    def test_great_values(self):
        self.assertEqual(len(fixed({at: [at] for at in range(20000)})), 20000)
        self.assertEqual(str(Ratio(10 ** 100000 + 1))[-3:], "001")
        self.assertEqual((Step(10 ** 20000, [1]) - Step(10 ** 20000, [0])).kind, "apart")


class Single(Case):
    """How long single answers take that once took longest: each bound is about five times what is needed now."""

    def test_words_of_riders(self):
        for (book, saying), word, most in ((LONG_RIDERS, "always", 0.05), (SMALL_RIDERS, "never", 0.04)):
            paper = rider_word(book, saying)
            self.assertEqual(paper.word, word)
            self.assertTrue(is_rider_word(book, saying, [], paper))
            self.assertLess(shortest(lambda: rider_word(book, saying)), most)

    def test_words_of_riders_of_four_happenings(self):
        source = random.Random(13)
        for _ in range(3):
            book = long_book(source, 1, 4, 2).renamed({f"n{at}": name for at, name in enumerate("abcd")})
            for saying in (seen_last("a", ["b", "c"]), seen_first("a", ["b", "c", "d"]), (seen_ahead("a", "b") | seen_with("b", "c")) & ~seen_ahead("c", "a")):
                paper = rider_word(book, saying)
                self.assertTrue(is_rider_word(book, saying, [], paper))
                self.assertLess(shortest(lambda: rider_word(book, saying)), 0.04)

    def test_words_of_callers(self):
        source = random.Random(14)
        for axes, many in SIZES:
            for _ in range(4):
                book = long_book(source, axes, many, 6)
                saying = least_of(2, *[of_row(row) for row in random_rows(source, book, 4)])
                self.assertLess(shortest(lambda: word_of(book, saying)), 0.04)

    def test_stories_of_long_numbers(self):
        source = random.Random(15)
        for axes in (1, 2, 3):
            for _ in range(4):
                paces = {f"t{at}": Pace([Ratio(source.randint(-500000, 500000), 999983 + at) for _ in range(axes)]) for at in range(4)}
                spans = [self.long_span(source) for _ in range(7)]
                story = Story(axes, list("abcd"), paces, [(source.choice(list(paces)), Row(span, source.choice([">", ">="]))) for span in spans[:6]])
                calls = [lambda: held(story), lambda: fewest_struck(story)]
                if held(story):
                    calls += [lambda: sure_row(story, paces["t0"], Row(spans[6], ">"))] + ([lambda: sure_paces(story, spans[6])] if axes == 1 else [])
                for call in calls:
                    self.assertLess(shortest(call), 0.05)

    def long_span(self, source):
        terms = {name: Ratio(source.randint(-999999, 999999), source.randint(1, 999999)) for name in "bcd"}
        rest = Ratio(0)
        for number in terms.values():
            rest = rest + number
        return Span({"a": -rest, **terms})

    def test_all_orders_and_records(self):
        source = random.Random(16)
        for axes, many in SIZES:
            book = long_book(source, axes, many, 6)
            book = Book(axes, {name: (book.spot_of(name).time * Ratio(1, 10 ** 6), book.spot_of(name).place) for name in book})
            few = book.kept(book.names[:4])
            for call in (lambda: flats_of(book), lambda: called_orders(book), lambda: fewest_records(few)):
                self.assertLess(shortest(call, 3), 0.15)


class LaterFiles(Case):

    def setUp(self):
        self.begun = time.monotonic()

    def tearDown(self):
        self.assertLess(time.monotonic() - self.begun, 10)

    def test_stories_looked_at(self):
        source = random.Random(17)
        for axes in (1, 2, 3) * 6:
            paces = {f"t{at}": Pace([Ratio(source.randint(-500000, 500000), 999983 + at) for _ in range(axes)]) for at in range(6)}
            story = Story(axes, list("abcd"), paces, [(source.choice(list(paces)), Row(random_span(source, list("abcd")), source.choice([">", ">=", "="]))) for _ in range(6)])
            self.assertTrue(is_held(story, held(story)))
            self.assertTrue(is_struck(story, fewest_struck(story)))
            if held(story):
                row = Row(random_span(source, list("abcd")), source.choice([">", "="]))
                self.assertTrue(is_sure(story, paces["t0"], row, sure_row(story, paces["t0"], row)))

    def test_tables_of_7_names(self):
        source = random.Random(18)
        for table in [Table.of(random_road(source, 7)) for _ in range(6)] + [Table([f"n{at}" for at in range(7)], []), CROWN]:
            self.assertTrue(is_placed(table, placed(table)))
            self.assertLess(shortest(lambda: placed(table), 2), 0.15)
            if placed(table):
                self.assertGreater(patterns_count(table), 0)
                self.assertIn(turned_parts(table)[0], ("beside", "behind", "bound"))
                pairs = apart_in(table)
                if pairs:
                    self.assertIn(bond_of(table, *pairs[0], *pairs[-1]), ("together", "against", "free"))
                self.assertEqual(Table.of(placed_as(table, pattern_of(placed(table).book))), table)
        self.assertEqual(len(all_patterns(Table(list("abcde"), []))), 120)

    def test_eyes_of_8_happenings(self):
        source = random.Random(19)
        for book in (EIGHT, Book(1, {f"n{at}": (0, [at]) for at in range(8)}), random_road(source, 8, 3)):
            rows = [SeenRow(*source.sample(book.names, 2), source.choice([">", ">=", "="])) for _ in range(8)]
            saying = least_of(3, *[of_row(row) for row in rows])
            self.assertTrue(is_eye_word(book, saying, [], eye_word(book, saying)))
            both = eye_word(book, saying | ~saying)
            self.assertEqual(both.word, "always")
            count = seen_count(book)
            if count:
                self.assertEqual(number_seen(book, seen_number(book, count - 1)), count - 1)
            self.assertGreater(len(resting_orders(book)), 0)
            self.assertIn(find_eye(book, [list(book.names)]).word, ("seenby", "unseen"))

    def test_words_of_eyes_of_4_rows(self):
        source = random.Random(20)
        for _ in range(10):
            book = long_book(source, 1, 5, 6)
            saying = random_seen_saying(source, book.names, 4)
            self.assertTrue(is_eye_word(book, saying, [], eye_word(book, saying)))
            self.assertLess(shortest(lambda: eye_word(book, saying), 3), 0.1)

    def test_passers_of_long_numbers(self):
        source = random.Random(21)
        for _ in range(10):
            book = long_book(source, 1, 5, 6)
            accounts = [rows for rows in [random_account(source, book, 4) for _ in range(8)] if stretch_of(book, rows)]
            self.assertTrue(is_passers(book, accounts, fewest_passers(book, accounts)))

    def test_tours_and_beats_of_long_numbers(self):
        source = random.Random(22)
        parts = [(Ratio(source.randint(1, 10 ** 60), source.randint(1, 10 ** 60)), Ratio(source.randint(1, 10 ** 60), source.randint(1, 10 ** 60))) for _ in range(12)]
        tour = Tour(parts)
        self.assertEqual(Tour.read(str(tour)), tour)
        self.assertEqual(spot_at(tour, tour.age), tour.step)
        self.assertEqual(age_of_news(tour, tour.spots[6]), spot_age(tour, 6))
        self.assertEqual(straight_square(tour), tour.step.square)
        k, other, beats = parts[0][0], parts[1][0], parts[2][1]
        self.assertEqual(middle_beats(k, other, beats) * 2, echo_beats(k, other, beats) + beats)
        for letter in ("9", "a", " ", "/", "-"):
            for cls in (Tour, Table, Weave, SeenRow):
                self.refuses(BadText(0, 0), cls.read, letter * 100000)

    def test_desks_of_many_lines(self):
        desk = Desk(Book(2, {"a": (0, [0, 0]), "b": (0, [1, 0]), "c": (0, [0, 1])}))
        desk.run(["mirror 0", "carry 2 1", "carry 1/2 1", "mirror 0"] * 100)
        self.assertEqual((desk.book, len(desk.told_lines())), (desk.first, 400))
        desk.run(["say s row > a -1 b 1", "row >= a -1 b 1", "orders", "records", "messengers", "word s", "who", "order 1/3 1/3"] * 12)
        for _ in range(424):
            desk.back()
        self.assertEqual(desk.told_lines(), ())


def spot_age(tour, many):
    """The age at which so many parts are gone."""
    age = Ratio(0)
    for _, beats in tour.parts[:many]:
        age = age + beats
    return age
