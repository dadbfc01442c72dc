"""Point 12, whosefirst/ready_sayings.py."""

from itertools import product

from helpers import Case, no_lists, no_names, no_ratios
from own import keeps_saying, worth
from test_called import some_paces
from test_moved import some_books
from whosefirst.errors import BadNumber, BadSaying, TooMany, Twice
from whosefirst.ratios import Ratio
from whosefirst.ready_sayings import ahead_of, first_among, lasts_longer, last_among, level_with, lies_between
from whosefirst.sayings import Saying, all_of, no, yes
from whosefirst.spans import Span


class Ready(Case):

    def test_texts(self):
        self.assertEqual(str(ahead_of("a", "b")), "row > a -1 b 1")
        self.assertEqual(str(ahead_of(other="a", one="b")), "row > a 1 b -1")
        self.assertEqual(str(level_with("a", "b")), "row = a -1 b 1")
        self.assertEqual(str(level_with(other="a", one="b")), "row = a 1 b -1")
        self.assertEqual([str(ahead_of("a", "a")), str(level_with("a", "a"))], ["row > -", "row = -"])
        self.assertEqual(str(first_among("b", ["c", "b", "a"])), "row >= a 1 b -1 / row >= b -1 c 1 / and 0 1")
        self.assertEqual(str(last_among("b", ["c", "b", "a"])), "row >= a -1 b 1 / row >= b 1 c -1 / and 0 1")
        self.assertEqual(str(first_among(names=("c",), name="a")), "row >= a -1 c 1")
        self.assertEqual(str(last_among(names=("c",), name="a")), "row >= a 1 c -1")
        for call in (first_among, last_among):
            for names in ([], (), ["a"]):
                self.assertEqual(call("a", names), yes())
            self.assertEqual(call("d", ["b", "a", "c"]), call("d", ("d", "c", "b", "a")))
        self.assertEqual(str(lies_between("b", "a", "c")), "row > a -1 b 1 / row > b -1 c 1 / and 0 1 / row > b 1 c -1 / row > a 1 b -1 / and 3 4 / or 2 5")
        self.assertEqual(lies_between(other="c", one="a", name="b"), (ahead_of("a", "b") & ahead_of("b", "c")) | (ahead_of("c", "b") & ahead_of("b", "a")))
        self.assertEqual(str(lies_between("a", "a", "a")), "row > - / and 0 0 / or 1 1")
        self.assertEqual(str(lasts_longer("a", "b", "b", "c", Ratio(1, 2))), "row > a -1 b 3/2 c -1/2")
        self.assertEqual(lasts_longer(fourth="d", third="c", other="b", one="a"), lasts_longer("a", "b", "c", "d", 1))
        self.assertEqual(str(lasts_longer("a", "b", "c", "d", times=-2)), "row > a -1 b 1 c -2 d 2")
        self.assertEqual([str(lasts_longer("a", "b", "a", "b")), str(lasts_longer("a", "b", "c", "d", 0))], ["row > -", "row > a -1 b 1"])

    def test_meaning(self):
        for book in [book for book in some_books() if len(book) > 1]:
            names = book.names[:4]
            for pace in some_paces(book.axes)[:4]:
                def late(one, other):
                    return worth(book, pace, Span.between(one, other))
                for one, other, third in product(names, repeat=3):
                    self.assertIs(keeps_saying(book, pace, ahead_of(one, other)), late(one, other) > 0)
                    self.assertIs(keeps_saying(book, pace, level_with(one, other)), late(one, other) == 0)
                    between = late(one, third) * late(third, other) > 0
                    self.assertIs(keeps_saying(book, pace, lies_between(third, one, other)), between)
                    longer = late(one, other) > late(other, third) / 2
                    self.assertIs(keeps_saying(book, pace, lasts_longer(one, other, other, third, Ratio(1, 2))), longer)
                for name in names:
                    self.assertIs(keeps_saying(book, pace, first_among(name, names)), all(late(name, other) >= 0 for other in names))
                    self.assertIs(keeps_saying(book, pace, last_among(name, names)), all(late(other, name) >= 0 for other in names))

    def test_wrong_names(self):
        for call in (ahead_of, level_with):
            self.refuses_each(BadSaying("one"), lambda value: call(value, None), no_names())
            self.refuses_each(BadSaying("other"), lambda value: call("a", value), no_names())
        for call in (first_among, last_among):
            self.refuses_each(BadSaying("name"), lambda value: call(value, None), no_names())
            self.refuses_each(BadSaying("names"), lambda value: call("a", value), no_lists())
            self.refuses_each(BadSaying("names"), lambda value: call("a", ["b", "b", value]), no_names())
            self.refuses(Twice("c"), call, "a", ["b", "c", "c", "b"])
            self.refuses(Twice("a"), call, "a", ["a", "a"])
            self.refuses(Twice("b"), call, "a", [f"n{at}" for at in range(10)] + ["b", "b"])
        self.refuses_each(BadSaying("name"), lambda value: lies_between(value, None, None), no_names())
        self.refuses_each(BadSaying("one"), lambda value: lies_between("a", value, None), no_names())
        self.refuses_each(BadSaying("other"), lambda value: lies_between("a", "b", value), no_names())
        parts = ("one", "other", "third", "fourth")
        for at, part in enumerate(parts):
            self.refuses_each(BadSaying(part), lambda value: lasts_longer(*["a"] * at, *[value] * (4 - at), None), no_names())
        self.refuses_each(BadNumber("times"), lambda value: lasts_longer("a", "b", "c", "d", value), no_ratios())

    def test_8_and_9_rows(self):
        names = [f"n{at}" for at in range(9)]
        for call in (first_among, last_among):
            self.assertEqual(len(call("a", names[:8]).rows), 8)
            self.assertEqual(len(call("n8", names).rows), 8)
            self.refuses(TooMany("rows", 8), call, "a", names)

    def test_they_are_sayings(self):
        for saying in (ahead_of("a", "b"), first_among("a", ["b", "c"]), lies_between("a", "b", "c"), lasts_longer("a", "b", "c", "d")):
            self.assertIs(type(saying), Saying)
            self.assertEqual(Saying.read(str(saying)), saying)
        self.assertEqual(all_of(), yes())
        self.assertNotEqual(first_among("a", []), no())
