"""Point 16, whosefirst/rider_rows.py."""

import random

from helpers import Case, no_lists, no_names, no_ratios, no_values
from own import sign_of
from own_riders import kind_of, lights, line, mark, random_rider_rows, rides_saying, road_books, row_worth, some_riders
from test_sayings import OwnRow
from whosefirst.books import Book
from whosefirst.errors import BadBook, BadNumber, BadRider, BadRow, BadSaying, BadSpan, NoHappening, TooMany, Twice, Unlike
from whosefirst.paces import Pace
from whosefirst.ratios import Ratio
from whosefirst.rider_rows import (RiderRow, SideRow, goes_through, lies_left, lies_right, looks_longer, rider_sign, seen_ahead, seen_first, seen_last,
                                   seen_longer, seen_with)
from whosefirst.riders import Rider
from whosefirst.rows import AnyRow, Row
from whosefirst.sayings import yes
from whosefirst.spans import Span

HALF = Ratio(1, 2)
GAP, NOTHING = Span.between("a", "b"), Span({})
TWO = Book(1, {"a": (0, [0]), "b": (1, [2])})
SITTING = Rider(Pace([0]), 5)
PLANE = Book(2, {"a": (0, [0, 0])})


class Rows(Case):

    def test_rider_rows(self):
        row = RiderRow(kind=">=", seen=Span.between("c", "a"), called=GAP)
        self.assertEqual((row.called, row.seen, row.kind, row.names), (GAP, Span.between("c", "a"), ">=", ("a", "b", "c")))
        self.assertEqual([RiderRow(NOTHING, NOTHING, "=").names, RiderRow(NOTHING, GAP, "=").names], [(), ("a", "b")])
        self.assertIsInstance(row, AnyRow)
        self.assertTrue(row == RiderRow(GAP, Span.between("c", "a"), ">="))
        self.differs(row, [RiderRow(GAP, Span.between("c", "a"), ">"), RiderRow(GAP, GAP, ">="), RiderRow(NOTHING, Span.between("c", "a"), ">="), Row(GAP, ">="),
                           RiderRow(Span.between("c", "a"), GAP, ">="), str(row), *no_values()])
        self.refuses_each(BadSpan("called"), lambda value: RiderRow(value, None, None), no_values())
        self.refuses_each(BadSpan("seen"), lambda value: RiderRow(GAP, value, None), no_values())
        self.refuses_each(BadRow("kind"), lambda value: RiderRow(GAP, GAP, value), [*no_values(), "<", "=>", "==", ">= ", "left"])

    def test_side_rows(self):
        for side, kind in (("left", ">"), ("through", "="), ("right", ">")):
            row = SideRow(side=side, name="b")
            self.assertEqual((row.name, row.side, row.kind, row.names, str(row)), ("b", side, kind, ("b",), f"siderow b {side}"))
            self.assertIsInstance(row, AnyRow)
        self.assertTrue(SideRow("a", "left") == SideRow("a", "left"))
        self.differs(SideRow("a", "left"), [SideRow("a", "right"), SideRow("b", "left"), "siderow a left", RiderRow(NOTHING, GAP, ">"), *no_values()])
        self.refuses_each(BadRow("name"), lambda value: SideRow(value, None), no_names())
        self.refuses_each(BadRow("side"), lambda value: SideRow("a", value), [*no_values(), "Left", "", "left ", ("left",), "middle"])

    def test_rider_row_texts(self):
        self.reads(RiderRow, ["riderrow > - ; a -1 b 1", "riderrow >= a 2 b -2 ; -", "riderrow = - ; -", "riderrow > a 1/2 b -1/2 ; b 1 c 1 d -2"])
        self.reads_not(RiderRow, {
            "": 0, "row > - ; -": 0, "riderrow": 1, "riderrow <": 1, "riderrow >": 2, "riderrow > -": 3, "riderrow > - -": 3, "riderrow > - a -1 b 1": 3,
            "riderrow > - ;": 4, "riderrow > - ; ": 4, "riderrow > - ; - ": 5, "riderrow > - ; - ;": 5, "riderrow > ; -": 2, "riderrow > - ; a": 5,
            "riderrow > - ; a -1": 6, "riderrow > - ; a -1 b 2": 8, "riderrow > a -1 b 2 ; -": 6, "riderrow > a -1 ; -": 4, "riderrow > a -1 b 1": 6,
            "riderrow > a -1 b 1 ;": 7, "riderrow > a -1 b 1 a": 6, "riderrow > a -1 b 1 ; b 1 a -1": 9, "riderrow > - ; a -1 b 1 /": 8, "riderrow > - ; a 0": 5,
            "riderrow > a 0 ; -": 3, "riderrow  > - ; -": 1, " riderrow > - ; -": 0, "> - ; -": 0, "riderrow > - ; / a": 4})
        self.reads_no_values(RiderRow)

    def test_side_row_texts(self):
        self.reads(SideRow, ["siderow a left", "siderow b2 through", f"siderow {'z' * 12} right"])
        self.reads_not(SideRow, {"": 0, "siderow": 1, "siderow a": 2, "siderow A left": 1, "siderow a Left": 2, "siderow a left ": 3, "siderow a left right": 3,
                                 "siderow  left": 1, "side a left": 0, "siderow left": 2, "siderow a through b": 3, f"siderow {'z' * 13} left": 1})
        self.reads_no_values(SideRow)

    def test_bent_texts(self):
        source = random.Random(82)
        for book in road_books()[:4]:
            for row in random_rider_rows(source, book, 20):
                if type(row) is not Row:
                    words = str(row).split(" ")
                    for at in range(len(words)):
                        self.reads_not(type(row), {" ".join(words[:at]): at if at else 0, " ".join([*words[:at], "?", *words[at:]]): at, " ".join([*words[:at], "?", *words[at + 1:]]): at})
                    self.reads_not(type(row), {f"{row} ?": len(words), f"{row} ": len(words)})
                    self.assertEqual(type(row).read(str(row)), row)


class Signs(Case):

    def test_signs_of_worths(self):
        source = random.Random(83)
        seen = set()
        for book in road_books():
            for rider in some_riders(book):
                for row in random_rider_rows(source, book, 8):
                    sign = rider_sign(book, rider, row)
                    self.assertIs(type(sign), int)
                    self.assertEqual(sign, sign_of(row_worth(book, rider, row)))
                    seen.add((type(row), kind_of(row), sign))
        self.assertEqual(len(seen), 3 * 3 + 3 * 3 + 2 * 3)

    def test_by_hand(self):
        ahead = seen_ahead("a", "b").rows[0]
        self.assertEqual([str(ahead), rider_sign(TWO, SITTING, ahead), rider_sign(TWO, SITTING, SideRow("b", "right"))], ["riderrow > - ; a -1 b 1", -1, -1])
        self.assertEqual([rider_sign(row=SideRow("b", side), rider=Rider(Pace([0]), 2), book=TWO) for side in ("left", "through", "right")], [0, 0, 0])
        # Seen to last 1, called to last half of 1 p u + w: of b against a that is 2, so the row comes to 1 - 1.
        far = Rider(Pace([0]), -9)
        self.assertEqual([rider_sign(TWO, far, RiderRow(GAP * -times, GAP, ">")) for times in (2, 3, 4)], [1, 0, -1])
        self.assertEqual([rider_sign(TWO, SITTING, Row(GAP, kind)) for kind in (">", ">=", "=")], [1, 1, 1])

    def test_wrong_values(self):
        self.refuses_each(BadBook("book"), lambda value: rider_sign(value, None, None), no_values())
        self.refuses_each(BadRider("rider"), lambda value: rider_sign(PLANE, value, None), [*no_values(), Pace([0])])
        self.refuses_each(BadRow("row"), lambda value: rider_sign(PLANE, SITTING, value), [*no_values(), AnyRow(), OwnRow("x"), GAP, "siderow a left"])
        for row in (Row(GAP, ">"), RiderRow(GAP, NOTHING, ">"), SideRow("b", "left")):
            self.refuses(Unlike("road"), rider_sign, PLANE, SITTING, row)
        self.refuses(NoHappening("c"), rider_sign, TWO, SITTING, RiderRow(Span.between("a", "d"), Span.between("d", "c"), ">"))
        self.refuses(NoHappening("c"), rider_sign, TWO, SITTING, RiderRow(Span.between("a", "c"), Span.between("d", "b"), ">"))
        self.refuses(NoHappening("z"), rider_sign, TWO, SITTING, SideRow("z", "left"))
        self.refuses(NoHappening("y"), rider_sign, TWO, SITTING, Row.ahead("z", "y"))


class Sayings(Case):

    def test_texts(self):
        self.assertEqual(str(seen_ahead("a", "b")), "row riderrow > - ; a -1 b 1")
        self.assertEqual(str(seen_ahead(other="a", one="b")), "row riderrow > - ; a 1 b -1")
        self.assertEqual(str(seen_with("a", "b")), "row riderrow = - ; a -1 b 1")
        self.assertEqual(str(seen_with(other="a", one="b")), "row riderrow = - ; a 1 b -1")
        self.assertEqual(str(seen_first("b", ["c", "b", "a"])), "row riderrow >= - ; a 1 b -1 / row riderrow >= - ; b -1 c 1 / and 0 1")
        self.assertEqual(str(seen_last("b", ["c", "b", "a"])), "row riderrow >= - ; a -1 b 1 / row riderrow >= - ; b 1 c -1 / and 0 1")
        self.assertEqual(str(seen_first(names=("c",), name="a")), "row riderrow >= - ; a -1 c 1")
        self.assertEqual(str(seen_last(names=("c",), name="a")), "row riderrow >= - ; a 1 c -1")
        for call in (seen_first, seen_last):
            self.assertEqual([call("a", []), call("a", ("a",))], [yes(), yes()])
        self.assertEqual(str(looks_longer("a", "b", 2)), "row riderrow > a 2 b -2 ; a -1 b 1")
        self.assertEqual(str(looks_longer(other="b", one="a")), "row riderrow > a 1 b -1 ; a -1 b 1")
        self.assertEqual(str(looks_longer("a", "b", times=0)), "row riderrow > - ; a -1 b 1")
        self.assertEqual(str(looks_longer("a", "b", Ratio(-1, 3))), "row riderrow > a -1/3 b 1/3 ; a -1 b 1")
        self.assertEqual(str(looks_longer("a", "a", 5)), "row riderrow > - ; -")
        self.assertEqual(str(seen_longer("a", "b", "b", "c", HALF)), "row riderrow > - ; a -1 b 3/2 c -1/2")
        self.assertEqual(str(seen_longer(fourth="d", third="c", other="b", one="a")), "row riderrow > - ; a -1 b 1 c 1 d -1")
        self.assertEqual(str(seen_longer("a", "b", "c", "d", times=-1)), "row riderrow > - ; a -1 b 1 c -1 d 1")
        self.assertEqual([str(call(name="q")) for call in (lies_left, goes_through, lies_right)], ["row siderow q left", "row siderow q through", "row siderow q right"])

    def test_meaning(self):
        for book in [book for book in road_books() if len(book) > 1]:
            one, other, third = book.names[0], book.names[1], book.names[-1]
            for rider in some_riders(book):
                def seen(name, more):
                    return mark(book, rider, more) - mark(book, rider, name)
                p = line(rider)[0]
                called = p * (lights(book, other)[0] - lights(book, one)[0]) + lights(book, other)[1] - lights(book, one)[1]
                for saying, due in ((seen_ahead(one, other), seen(one, other) > 0), (seen_with(one, other), seen(one, other) == 0),
                                    (seen_first(third, book.names[:8]), all(seen(third, name) >= 0 for name in book)),
                                    (seen_last(third, book.names[:8]), all(seen(name, third) >= 0 for name in book)),
                                    (looks_longer(one, other), seen(one, other) > called / 2), (looks_longer(one, other, 0), seen(one, other) > 0),
                                    (looks_longer(one, other, -2), seen(one, other) > -called),
                                    (seen_longer(one, other, other, third, HALF), seen(one, other) > seen(other, third) / 2)):
                    self.assertIs(rides_saying(book, rider, saying), due)
                spot = book.spot_of(one)
                place = rider.pace.parts[0] * spot.time + rider.stand - spot.place[0]
                for call, due in ((lies_left, place.sign > 0), (goes_through, place.sign == 0), (lies_right, place.sign < 0)):
                    self.assertIs(rides_saying(book, rider, call(one)), due)

    def test_wrong_names_and_times(self):
        for call in (seen_ahead, seen_with):
            self.refuses_each(BadSaying("one"), lambda value: call(value, None), no_names())
            self.refuses_each(BadSaying("other"), lambda value: call("a", value), no_names())
        for call in (seen_first, seen_last):
            self.refuses_each(BadSaying("name"), lambda value: call(value, None), no_names())
            self.refuses_each(BadSaying("names"), lambda value: call("a", value), no_lists())
            self.refuses_each(BadSaying("names"), lambda value: call("a", ["b", "b", value]), no_names())
            self.refuses(Twice("c"), call, "a", ["b", "c", "c", "b", *[f"n{at}" for at in range(9)]])
            self.refuses(TooMany("rows", 8), call, "a", [f"n{at}" for at in range(9)])
            self.assertEqual(len(call("n8", [f"n{at}" for at in range(9)]).rows), 8)
        for call in (lies_left, goes_through, lies_right):
            self.refuses_each(BadSaying("name"), call, no_names())
        self.refuses_each(BadSaying("one"), lambda value: looks_longer(value, None, None), no_names())
        self.refuses_each(BadSaying("other"), lambda value: looks_longer("a", value, None), no_names())
        self.refuses_each(BadNumber("times"), lambda value: looks_longer("a", "b", value), no_ratios())
        for at, part in enumerate(("one", "other", "third", "fourth")):
            self.refuses_each(BadSaying(part), lambda value: seen_longer(*["a"] * at, *[value] * (4 - at), None), no_names())
        self.refuses_each(BadNumber("times"), lambda value: seen_longer("a", "b", "c", "d", value), no_ratios())
