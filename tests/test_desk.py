"""Point 26, whosefirst/desk.py."""

import random

from helpers import Case, no_lists, no_names, no_values, odd_values
from own_tables import random_road
from whosefirst.books import Book
from whosefirst.brought import brought_by
from whosefirst.called import called_order
from whosefirst.callers import find_caller, keeps_rows
from whosefirst.carried import carried_book
from whosefirst.chains import fewest_messengers
from whosefirst.clashes import least_clash
from whosefirst.desk import Desk
from whosefirst.errors import (BadBook, BadLine, BadNumber, BadOrder, BadPace, BadSaying, BadText, Impossible, NoHappening, Nothing, SameSpot, TooMany, Twice,
                               Unlike)
from whosefirst.flats import orders_count
from whosefirst.moved import mirrored_book
from whosefirst.paces import Pace
from whosefirst.parts import patterns_count
from whosefirst.placed import placed
from whosefirst.ratios import Ratio
from whosefirst.records import fewest_records
from whosefirst.resting import resting_order
from whosefirst.riders import Rider, seen_order_of
from whosefirst.rows import Row
from whosefirst.sayings import Saying
from whosefirst.seen import find_eye
from whosefirst.seen_counts import seen_count
from whosefirst.spans import Span
from whosefirst.tables import Table
from whosefirst.telling import kind_between
from whosefirst.words import word_of

ROAD = Book(1, {"a": (0, [0]), "b": (1, [3]), "c": (2, [1])})
PLANE = Book(2, {"a": (0, [0, 0]), "b": (0, [1, 0]), "c": (0, [0, 1])})
ROOM = Book(3, {"a": (0, [0, 0, 0]), "b": (1, [2, 0, 1])})
EIGHT = Book(1, {f"n{at}": (0, [at]) for at in range(8)})


def text_of(order):
    return " / ".join(" ".join(lot) for lot in order)


def state_of(desk):
    return desk.first, desk.book, desk.rows, desk.told_lines(), [(name, desk.saying_of(name)) for name in desk.kept_names()]


class Lines(Case):

    def stays(self, desk, error, line):
        """The line raises this error, and nothing is changed by it."""
        before = state_of(desk)
        self.refuses(error, desk.tell, line)
        self.assertEqual(state_of(desk), before)

    def answers(self, desk, answers):
        """Each question has its answer, is no deed, and changes nothing."""
        before = state_of(desk)
        for line, answer in answers.items():
            with self.subTest(line=line):
                self.assertEqual(desk.tell(line), answer)
                self.assertIs(type(desk.tell(line=line)), str)
        self.assertEqual(state_of(desk), before)

    def test_put_and_drop(self):
        for book in (ROAD, PLANE, ROOM):
            desk = Desk(book)
            place = ["1/2", "-7", "3"][:book.axes]
            self.assertEqual(desk.tell("put z9 4/3 " + " ".join(place)), f"put {len(book) + 1}")
            self.assertEqual(desk.book, book.with_happening("z9", Ratio(4, 3), [Ratio.read(number) for number in place]))
            self.assertEqual(desk.tell("drop a"), "dropped 0")
            self.assertEqual(desk.book, book.with_happening("z9", Ratio(4, 3), [Ratio.read(number) for number in place]).kept(["z9", *book.names[1:]]))
            self.assertEqual(desk.first, book)
        desk = Desk(ROAD, ["row > a 1 b -1", "row >= a -1 c 1", "row > b -1 c 1"])
        self.assertEqual([len(desk.rows), desk.tell("drop b"), desk.rows], [3, "dropped 2", (Row.read(">= a -1 c 1"),)])

    def test_a_ninth_happening_and_the_only_one(self):
        desk = Desk(EIGHT)
        self.stays(desk, TooMany("happenings", 8), "put z 9 9")
        self.stays(desk, Twice("n0"), "put n0 9 9")
        self.stays(Desk(ROAD), SameSpot("b", "z"), "put z 1 3")
        one = Desk(Book(1, {"a": (0, [0])}))
        self.stays(one, BadOrder("names"), "drop a")
        self.stays(one, NoHappening("b"), "drop b")
        self.stays(Desk(ROAD), NoHappening("z"), "drop z")

    def test_rows(self):
        desk = Desk(ROAD)
        self.assertEqual([desk.tell("row > a 1 b -1"), desk.tell("row >= b 2 c -2"), desk.rows], ["kept 1", "clash 0 1", (Row.read("> a 1 b -1"),)])
        self.assertEqual(desk.tell("row > -"), "clash 1")
        self.assertEqual([desk.tell("row = -"), desk.tell("row > a -1 c 1"), desk.tell("row > a 1 b -1")], ["kept 2", "kept 3", "kept 4"])
        self.assertEqual(desk.told_lines(), ("row > a 1 b -1", "row = -", "row > a -1 c 1", "row > a 1 b -1"))
        self.stays(desk, NoHappening("y"), "row > y -1 z 1")
        full = Desk(ROAD, ["row > a -1 c 1"] * 24)
        self.assertEqual(len(full.rows), 24)
        self.stays(full, TooMany("rows", 24), "row > a -1 c 1")

    def test_clashes_end_with_the_new_row(self):
        source = random.Random(200)
        seen = {"kept": 0, "clash": 0}
        for _ in range(60):
            book = source.choice([random_road(source, 4), PLANE, ROOM.with_happening("c", 0, [1, 1, 2])])
            desk = Desk(book)
            for _ in range(6):
                row = Row(Span.between(*source.sample(book.names, 2)), source.choice([">", ">=", "="]))
                rows = [*desk.rows, row]
                answer = desk.tell(f"row {row}")
                found = least_clash(book, rows)
                self.assertEqual(answer, f"kept {len(rows)}" if found else " ".join(["clash", *map(str, found.numbers)]))
                self.assertEqual(desk.rows, tuple(rows) if found else tuple(rows[:-1]))
                if not found:
                    self.assertEqual(answer.split()[-1], str(len(rows) - 1))
                self.assertTrue(find_caller(desk.book, desk.rows))
                seen[answer.split()[0]] += 1
        self.assertGreater(min(seen.values()), 50)

    def test_strikes(self):
        desk = Desk(ROAD, ["row > a 1 b -1", "row = -", "row >= a -1 b 1/2 c 1/2"])
        self.assertEqual(desk.tell("strike 1"), "struck = -")
        self.assertEqual(desk.rows, (Row.read("> a 1 b -1"), Row.read(">= a -1 b 1/2 c 1/2")))
        self.assertEqual(desk.tell("strike 1"), "struck >= a -1 b 1/2 c 1/2")
        self.stays(desk, BadText(0, 1), "strike 1")
        self.assertEqual(desk.tell("strike 0"), "struck > a 1 b -1")
        self.stays(desk, BadText(0, 1), "strike 0")

    def test_carry_and_mirror(self):
        for book in (ROAD, PLANE, ROOM):
            for axis in range(book.axes):
                desk = Desk(book, ["row > a -1 b 1", "say s row > a -1 b 1"])
                rows = desk.rows
                self.assertEqual([desk.tell(f"carry 3/2 {axis}"), desk.book], ["carried", carried_book(book, Ratio(3, 2), axis)])
                self.assertEqual([desk.tell(f"mirror {axis}"), desk.book], ["mirrored", mirrored_book(carried_book(book, Ratio(3, 2), axis), axis)])
                self.assertEqual((desk.rows, desk.kept_names()), (rows, ("s",)))
                self.assertTrue(find_caller(desk.book, desk.rows))
            desk = Desk(book)
            for line, word in ((f"mirror {book.axes}", 1), (f"carry 2 {book.axes}", 2), ("mirror -1", 1), ("mirror 00", 1), ("carry 0 9", 2), ("mirror", 1), ("mirror 0 0", 2), ("carry 2", 2),
                               ("carry 2 0 ", 3), ("carry x 0", 1), ("carry 2/4 0", 1)):
                self.stays(desk, BadText(0, word), line)
            for ratio in ("0", "-1", "-1/2"):
                self.stays(desk, BadNumber("ratio"), f"carry {ratio} 0")

    def test_sayings(self):
        desk = Desk(ROAD)
        self.assertEqual([desk.tell("say s row > a -1 c 1"), desk.tell("say both row > a -1 b 1 / row > b -1 c 1 / and 0 1"), desk.tell("say x yes")], ["said 1", "said 2", "said 0"])
        self.assertEqual(desk.kept_names(), ("both", "s", "x"))
        self.assertEqual(desk.saying_of("s"), Saying.read("row > a -1 c 1"))
        self.assertEqual([desk.tell("say s no"), desk.saying_of(name="s"), desk.kept_names()], ["said 0", Saying.read("no"), ("both", "s", "x")])
        # Of happenings that the book lacks something may be said; they are asked for with its word.
        self.assertEqual(desk.tell("say far row > y -1 z 1"), "said 1")
        self.stays(desk, NoHappening("y"), "word far")
        for value in [*no_names(), "z", "S", 0, ["s"]]:
            self.refuses(BadSaying("name"), desk.saying_of, value)

    def test_words_by_the_told_rows(self):
        desk = Desk(ROAD, ["say ab row > a -1 b 1", "say cb row > b 1 c -1", "say ac row > a -1 c 1"])
        self.answers(desk, {"word ab": "open", "word cb": "open", "word ac": "always"})
        desk.tell("row > a 1 b -1")
        self.answers(desk, {"word ab": "never", "word cb": "never", "word ac": "always"})
        self.stays(desk, BadText(0, 1), "word z")
        self.stays(desk, BadText(0, 1), "word")
        self.stays(desk, BadText(0, 2), "word ab ab")
        self.assertEqual([desk.back(), desk.tell("word ab")], ["row > a 1 b -1", "open"])

    def test_each_question_by_the_function_that_it_names(self):
        source = random.Random(201)
        for _ in range(8):
            book = random_road(source, source.randint(2, 5))
            desk = Desk(book, [f"say s {Saying([('row', Row.ahead(book.names[0], book.names[-1]))])}"])
            for _ in range(2):
                desk.tell(f"row {Row(Span.between(*source.sample(book.names, 2)), source.choice(['>', '>=']))}")
            one, other = source.choice(book.names), source.choice(book.names)
            names = source.sample(book.names, source.randint(1, len(book)))
            lots = [[name] for name in source.sample(book.names, len(book))]
            lots = [[*lots[0], *lots[1]], *lots[2:]] if source.random() < 0.5 else lots
            found = find_eye(book, lots)
            self.answers(desk, {
                "show": str(book), "who": f"pace {find_caller(book, desk.rows).pace}", "word s": word_of(book, desk.saying_of("s"), desk.rows).word,
                "order 1/3": text_of(called_order(book, Pace([Ratio(1, 3)]))), f"kind {one} {other}": kind_between(book, one, other), "orders": str(orders_count(book)),
                "records": str(len(fewest_records(book).paces)), "messengers": str(len(fewest_messengers(book).chains)), "patterns": str(patterns_count(Table.of(book))),
                "sees -3/5 2": text_of(seen_order_of(book, Rider(Pace([Ratio(-3, 5)]), 2))), "rests -1/2": text_of(resting_order(book, Ratio(-1, 2))),
                f"eye {text_of(lots)}": f"seen {found.weave}" if found else "unseen", f"brings {' '.join(names)}": " ".join(brought_by(book, names)), "strict": str(seen_count(book))})

    def test_questions_by_hand(self):
        desk = Desk(ROAD, ["row > a 1 b -1", "say s row > a -1 c 1"])
        self.answers(desk, {"show": "1 a 0 0 / b 1 3 / c 2 1", "word s": "always", "order 0": "a / b / c", "order 1/3": "a b / c", "rests 0": "a / c / b", "kind a b": "apart", "kind c a": "backward",
                            "kind a c": "forward", "kind a a": "nothing", "orders": "3", "records": "2", "messengers": "2", "patterns": "2", "strict": "3", "brings b c": "a b c", "brings a": "a",
                            "eye c / a / b": "unseen", "sees 0 5": "b / a / c"})
        pace = desk.tell("who").split()
        self.assertEqual(pace[0], "pace")
        self.assertIs(keeps_rows(ROAD, Pace.read(" ".join(pace[1:])), desk.rows), True)
        self.assertEqual(desk.tell("eye a / c / b").split()[0], "seen")
        self.answers(Desk(PLANE), {"order 0 0": "a b c", "order 1/2 0": "b / a c", "orders": "6", "kind a b": "apart", "messengers": "3", "records": str(len(fewest_records(PLANE).paces)),
                                   "show": "2 a 0 0 0 / b 0 1 0 / c 0 0 1", "who": "pace 0 0", "patterns": "6"})
        self.answers(Desk(ROOM), {"order 0 0 0": "a / b", "kind a b": "apart", "who": "pace 0 0 0", "orders": "2"})
        self.answers(Desk(Book(1, {"a": (0, [0])})), {"records": "0", "messengers": "1", "patterns": "1", "strict": "1", "orders": "1", "brings a": "a"})

    def test_errors_of_the_functions(self):
        road, plane, eight = Desk(ROAD), Desk(PLANE), Desk(EIGHT)
        for line, error in (("kind a z", NoHappening("z")), ("kind z y", NoHappening("z")), ("order 0 0", Unlike("axes")), ("order 0 0 0", Unlike("axes")), ("brings a a", Twice("a")),
                            ("brings a z a", NoHappening("z")), ("eye a / b", Unlike("order")), ("eye a / z / a", NoHappening("z")), ("eye a b / c / a", Twice("a")),
                            ("sees 1 0", BadPace("parts")), ("sees -7/2 0", BadPace("parts"))):
            self.stays(road, error, line)
        for line in ("sees 0 0", "rests 0", "eye a / b / c", "brings a", "strict", "eye a"):
            self.stays(plane, Unlike("road"), line)
        self.stays(plane, BadPace("parts"), "sees 1 0")
        self.stays(plane, Unlike("axes"), "order 0")
        self.stays(eight, TooMany("names", 7), "patterns")
        self.stays(Desk(Book(2, {name: (0, [at, at * at]) for at, name in enumerate("abcdef")})), TooMany("happenings", 5), "orders")
        self.stays(Desk(Book(2, {name: (0, [at, at * at]) for at, name in enumerate("abcde")})), TooMany("happenings", 4), "records")
        # Of the table of a crown in a plane there is no book on a road.
        spots = {}
        for at, (x, y) in enumerate(((0, 4), (4, -2), (-4, -2))):
            spots[f"a{at}"], spots[f"b{at}"] = (0, [x, y]), (6, [-x, -y])
        crown = Book(2, spots)
        self.assertEqual(placed(Table.of(crown)).word, "ring")
        self.stays(Desk(crown), Impossible(placed(Table.of(crown))), "patterns")

    def test_texts(self):
        """Each line told whole, a word less, a word more, and with each word exchanged by one that cannot stand."""
        desk = Desk(ROAD, ["row > a 1 b -1", "say s yes"])
        whole = {"put d 5 5": 3, "drop c": 1, "row = a 1 c -1": 0, "strike 0": 1, "carry 2 0": 2, "mirror 0": 1, "say t row > a -1 b 1 / not 0": 0, "show": 0, "who": 0, "word s": 1, "order 0": 0,
                 "kind a b": 2, "orders": 0, "records": 0, "messengers": 0, "patterns": 0, "sees 0 0": 2, "rests 0": 1, "eye a / b / c": 0, "brings a": 0, "strict": 0}
        for line in whole:
            words = line.split(" ")
            self.assertTrue(Desk(ROAD, ["row > a 1 b -1", "say s yes"]).tell(line))
            for many in range(1, len(words)):
                cut = " ".join(words[:many])
                if (words[0], many) not in (("eye", 2), ("eye", 4), ("say", 8)):
                    self.stays(desk, BadText(0, many), cut)
            for at in range(len(words)):
                for word in ("", "?", "A", "1a"):
                    bent = " ".join([*words[:at], word, *words[at + 1:]])
                    self.stays(desk, BadText(0, at), bent)
            if words[0] not in ("brings", "eye"):
                self.stays(desk, BadText(0, len(words)), f"{line} ?")
                self.stays(desk, BadText(0, len(words)), f"{line} ")
            self.stays(desk, BadText(0, 0), f" {line}")
            self.stays(desk, BadText(0, 0), line.upper())

    def test_words_that_cannot_stand(self):
        desk = Desk(ROAD, ["row > a 1 b -1"])
        for line, word in (("", 0), ("puts a 0 0", 0), ("put", 1), ("put d", 2), ("put d 1", 3), ("put d 1 2 3", 4), ("put 1 2 3", 1), ("put d 1 2 ", 4), ("put d 1 +2", 3), ("put d 1 2/0", 3),
                           ("put d 1  2", 3), ("drop", 1), ("drop a b", 2), ("row", 1), ("row <", 1), ("row >", 2), ("row > a", 3), ("row > a 1", 4), ("row > a 1 b 1", 6), ("row > a 1 a -1", 4),
                           ("row > a 1 b -1 / yes", 6), ("row > - a", 3), ("strike", 1), ("strike -1", 1), ("strike 01", 1), ("strike 1", 1), ("strike 0 0", 2), ("say", 1), ("say s", 2), ("say 1 yes", 1),
                           ("say s maybe", 2), ("say s yes /", 4), ("say s yes / yes", 4), ("say s yes / not 1", 5), ("say s no / yes / and 0 0", 8), ("say s yes no", 3), ("say s row > a 1 b -1 c", 9), ("say s row > a 1 b -1 c 1", 10),
                           ("order", 1), ("order 1", 1), ("order 3/5 4/5", 2), ("order 0 0 0 0", 4), ("order 0 x", 2), ("kind a", 2), ("kind a b c", 3), ("kind a 1", 2), ("sees 0", 2), ("sees 0 0 0", 3),
                           ("sees x 0", 1), ("rests", 1), ("rests 0 0", 2), ("rests 1.5", 1), ("eye", 1), ("eye ", 1), ("eye /", 1), ("eye / a", 1), ("eye a /", 3), ("eye a / / b", 3), ("eye a / 1", 3),
                           ("eye a b / c ", 5), ("eye a/b", 1), ("brings", 1), ("brings ", 1), ("brings a 1", 2), ("brings a / b", 2), ("show a", 1), ("who 0", 1), ("orders 1", 1), ("strict ", 1),
                           ("word", 1), ("patterns x", 1), ("records 2", 1), ("messengers /", 1), (f"rests {'1' * 61}", 1), (f"put d 1/{'1' * 61} 2", 2), (f"put {'d' * 13} 1 2", 1),
                           (f"strike {'0' * 61}", 1), ("back", 0), ("tell show", 0), ("put\td 1 2", 0), ("show\n", 0)):
            self.stays(desk, BadText(0, word), line)
        self.assertEqual(desk.tell(f"rests {'9' * 60}"), text_of(resting_order(ROAD, 10 ** 60 - 1)))
        for value in [*odd_values(), 0, 1, Ratio(1), [], ["show"], ("show",), {}, Row.ahead("a", "b")]:
            self.stays(desk, BadText(0, 0), value)

    def test_text_errors_come_ahead_of_those_of_the_functions(self):
        desk = Desk(ROAD)
        for line, word in (("put a 1", 3), ("drop z z", 2), ("row > y -1 z 1 1", 6), ("carry 0 1", 2), ("kind z y x", 3), ("sees 1 x", 2), ("eye z / a /", 5), ("brings z 1", 2), ("order 0 0 0 0", 4)):
            self.stays(desk, BadText(0, word), line)


class Desks(Case):

    def test_begin(self):
        desk = Desk(book=ROAD)
        self.assertEqual(state_of(desk), (ROAD, ROAD, (), (), []))
        self.assertEqual([type(desk.rows), type(desk.told_lines()), type(desk.kept_names())], [tuple] * 3)
        told = Desk(lines=("put d 5 5", "show", "row > a 1 b -1"), book=ROAD)
        self.assertEqual(told.told_lines(), ("put d 5 5", "row > a 1 b -1"))
        self.assertEqual((told.first, len(told.book)), (ROAD, 4))

    def test_told_at_once_one_by_one_and_with_the_book(self):
        lines = ["put d 5 5", "row > a 1 b -1", "say s row > a -1 c 1", "row > b 1 c -1", "word s", "carry 2 0", "row = a 1 d -1", "strike 0", "mirror 0", "drop b", "show", "say t no", "say s yes"]
        one, other = Desk(ROAD), Desk(ROAD)
        answers = [one.tell(line) for line in lines]
        self.assertEqual(other.run(lines=lines), answers)
        self.assertEqual(Desk(ROAD).run(tuple(lines)), answers)
        self.assertEqual(type(other.run([])), list)
        for desk in (other, Desk(ROAD, lines), Desk(one.first, one.told_lines()), Desk(ROAD, tuple(lines))):
            self.assertTrue(desk == one)
            self.assertEqual(state_of(desk), state_of(one))

    def test_runs_that_raise(self):
        desk = Desk(ROAD, ["row > a 1 b -1", "say s yes"])
        before = state_of(desk)
        for lines, at, error in ((["put d 5 5", "drop a", "show", "drop z"], 3, NoHappening("z")), (["strike 0", "row = a 1 b"], 1, BadText(0, 5)), (["mirror 0", None], 1, BadText(0, 0)),
                                 (["say t no", "carry 2 0", "carry 0 0", "drop z"], 2, BadNumber("ratio")), ([["show"]], 0, BadText(0, 0)), (["strike 0", "strike 0"], 1, BadText(0, 1)),
                                 (("put d 5 5", "put d 5 5"), 1, Twice("d"))):
            for call in (desk.run, lambda lines: Desk(ROAD, ["row > a 1 b -1", "say s yes"]).run(lines)):
                with self.assertRaises(BadLine) as caught:
                    call(lines)
                self.assertEqual(caught.exception.line, at)
                self.assertIs(type(caught.exception.error), type(error))
                self.assertEqual(vars(caught.exception.error), vars(error))
            self.assertEqual(state_of(desk), before)
            self.assertEqual(desk, Desk(ROAD, before[3]))
        # What was done ahead can be taken back as before.
        self.assertEqual([desk.back(), desk.back()], ["say s yes", "row > a 1 b -1"])
        self.refuses(Nothing(), desk.back)
        with self.assertRaises(BadLine) as caught:
            Desk(ROAD, ["show", "drop z"])
        self.assertEqual((caught.exception.line, vars(caught.exception.error)), (1, {"name": "z"}))

    def test_lists_of_lines_that_are_none(self):
        desk = Desk(ROAD)
        for value in no_lists():
            for call in (desk.run, lambda value: Desk(ROAD, value)):
                with self.assertRaises(BadLine) as caught:
                    call(value)
                self.assertEqual(caught.exception.line, 0)
                self.assertEqual((type(caught.exception.error), vars(caught.exception.error)), (BadText, {"line": 0, "word": 0}))
        self.refuses_each(BadBook("book"), lambda value: Desk(value, None), no_values())

    def test_deeds_taken_back(self):
        lines = ["put d 5 5", "row > a 1 b -1", "say s row > a -1 c 1", "carry 2 0", "strike 0", "mirror 0", "say s yes", "drop b"]
        desk, states = Desk(ROAD), []
        for line in lines:
            states.append(state_of(desk))
            desk.run([line, "show", "who", "row > -"])
        for line, state in zip(lines[::-1], states[::-1]):
            self.assertEqual(desk.back(), line)
            self.assertEqual(state_of(desk), state)
        before = state_of(desk)
        self.refuses(Nothing(), desk.back)
        self.assertEqual(state_of(desk), before)
        # Once more to the end, taken back in part, and something else told then.
        desk.run(lines)
        self.assertEqual([desk.back(), desk.back(), desk.tell("mirror 0"), desk.back(), desk.back()], ["drop b", "say s yes", "mirrored", "mirror 0", "mirror 0"])
        self.assertEqual(desk.told_lines(), tuple(lines[:5]))
        self.assertEqual(desk, Desk(ROAD, lines[:5]))

    def test_what_is_no_deed(self):
        desk = Desk(ROAD, ["row > a 1 b -1", "say s yes"])
        for line in ("row > b 1 c -1", "show", "who", "word s", "order 0", "kind a b", "orders", "records", "messengers", "patterns", "sees 0 0", "rests 0", "eye a / b / c", "brings a", "strict"):
            desk.tell(line)
            self.assertEqual(desk.told_lines(), ("row > a 1 b -1", "say s yes"))

    def test_equality(self):
        desk = Desk(ROAD, ["row > a 1 b -1", "say s yes"])
        self.assertTrue(desk == Desk(ROAD, ["say s no", "row = -", "say s yes", "row > a 1 b -1", "strike 0"]))
        self.assertTrue(Desk(ROAD, ["mirror 0", "mirror 0"]) == Desk(ROAD))
        self.assertTrue(Desk(mirrored_book(ROAD, 0), ["mirror 0"]) == Desk(ROAD))
        self.differs(desk, [Desk(ROAD), Desk(ROAD, ["row > a 1 b -1"]), Desk(ROAD, ["say s yes"]), Desk(ROAD, ["row > a 1 b -1", "say t yes"]), Desk(ROAD, ["row > a 1 b -1", "say s no"]),
                            Desk(ROAD, ["row > a 1 b -1", "say s yes", "mirror 0"]), Desk(ROAD, ["row > a 1 b -1", "say s yes", "say t yes"]), ROAD, *no_values()])

    def test_random_desks(self):
        """A desk is as its deeds tell it anew, and somebody always keeps all told rows."""
        source = random.Random(202)
        for _ in range(12):
            book = random_road(source, 3)
            desk = Desk(book)
            for _ in range(30):
                names = [*desk.book.names, "zz"]
                row = Row(Span.between(source.choice(names), source.choice(names)), source.choice([">", ">=", "="]))
                line = source.choice([f"put p{source.randint(0, 4)} {source.randint(-5, 5)} {source.randint(-5, 5)}", f"drop {source.choice(names)}", f"row {row}", f"row {row}",
                                      f"strike {source.randint(0, 3)}", f"carry {source.choice(['2', '1/3', '0'])} 0", "mirror 0", f"say s{source.randint(0, 2)} row {row}", "back"])
                try:
                    desk.back() if line == "back" else desk.tell(line)
                except ValueError:
                    pass
                self.assertTrue(find_caller(desk.book, desk.rows))
                again = Desk(desk.first, desk.told_lines())
                self.assertTrue(again == desk)
                self.assertEqual(state_of(again), state_of(desk))

    def test_what_is_returned_may_be_changed(self):
        desk = Desk(ROAD, ["say s yes"])
        lines = ["row > a 1 b -1", "show"]
        answers = desk.run(lines)
        answers.clear()
        lines.clear()
        self.assertEqual((desk.told_lines(), len(desk.rows)), (("say s yes", "row > a 1 b -1"), 1))
