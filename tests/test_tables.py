"""Points 19 and 2, whosefirst/tables.py."""

import random

from helpers import Case, no_lists, no_names, no_values
from own_tables import CROWN, apart, going_with, is_order as own_is_order, random_road, sides, some_tables, table_of
from test_moved import some_books
from whosefirst.books import Book
from whosefirst.errors import BadBook, BadTable, BadText, NoHappening, TooMany, Twice, Unlike
from whosefirst.tables import Table, apart_in, is_order, sides_with
from whosefirst.telling import reached_pairs

KNOWN = Table(["a", "b", "c", "d"], [("a", "c"), ("b", "d"), ("b", "c")])
SEVEN = [f"n{at}" for at in range(7)]


class Tables(Case):

    def test_attributes(self):
        self.assertEqual((KNOWN.names, KNOWN.pairs), (("a", "b", "c", "d"), (("a", "c"), ("b", "c"), ("b", "d"))))
        table = Table(pairs=[["y", "x"], ("z", "x")], names=("z", "x", "y"))
        self.assertEqual((table.names, table.pairs), (("x", "y", "z"), (("y", "x"), ("z", "x"))))
        self.assertEqual([type(table.names), type(table.pairs), type(table.pairs[0])], [tuple] * 3)
        self.assertEqual((Table(["a"], []).pairs, Table(["a"], ()).names), ((), ("a",)))

    def test_what_is_passed_is_copied(self):
        names, pairs = ["b", "a"], [["a", "b"]]
        table = Table(names, pairs)
        names.append("c")
        pairs[0].reverse()
        pairs.append(("b", "c"))
        self.assertEqual(table, Table(["a", "b"], [("a", "b")]))

    def test_equality(self):
        self.assertTrue(KNOWN == Table(("d", "c", "b", "a"), (["b", "c"], ["b", "d"], ["a", "c"])))
        self.differs(KNOWN, [Table(["a", "b", "c", "d"], []), Table(["a", "b", "c", "d", "e"], KNOWN.pairs), Table(list("abcd"), [("c", "a"), ("b", "d"), ("b", "c")]),
                             str(KNOWN), KNOWN.pairs, *no_values()])

    def test_wrong_names(self):
        self.refuses_each(BadTable("names"), lambda value: Table(value, None), [*no_lists(), [], ()])
        self.refuses_each(BadTable("names"), lambda value: Table(["a", "a", value], None), no_names())
        self.refuses(Twice("b"), Table, ["a", "b", "c", "b", "a"], None)
        self.refuses(Twice("n0"), Table, [*SEVEN, "n0"], None)
        self.refuses(TooMany("names", 7), Table, [*SEVEN, "z"], None)
        self.assertEqual(len(Table(SEVEN, []).names), 7)

    def test_wrong_pairs(self):
        self.refuses_each(BadTable("pairs"), lambda value: Table(["a", "b"], value), no_lists())
        for value in [*no_values(), *[[name, "a"] for name in no_names()], *[["a", name] for name in no_names()], ("a",), ("a", "b", "c"), "ab", ("a", "a"), ("a", "z"),
                      ("z", "a"), ("a", "b"), ["b", "a"], {"a": "c", "c": "b"}]:
            self.refuses(BadTable("pairs"), Table, ["a", "b", "c"], [("a", "b"), value])
        self.refuses(BadTable("pairs"), Table, ["a", "b", "c"], [("a", "b"), ("c", "a"), ("b", "a")])
        # A ring of pairs may be told: nothing says that it is an order.
        self.assertEqual(len(Table(["a", "b", "c"], [("a", "b"), ("b", "c"), ("c", "a")]).pairs), 3)

    def test_of_books(self):
        source = random.Random(131)
        for book in some_books():
            if len(book) <= 7:
                self.assertEqual(Table.of(book), Table(book.names, reached_pairs(book)))
        for many in range(1, 8):
            for _ in range(5):
                book = random_road(source, many)
                self.assertEqual(Table.of(book=book), table_of(book))
                self.assertIs(is_order(Table.of(book)), True)
        eight = random_road(source, 8)
        self.refuses(TooMany("names", 7), Table.of, eight)
        self.assertEqual(len(Table.of(eight.kept(eight.names[1:])).names), 7)
        self.refuses_each(BadBook("book"), Table.of, no_values())

    def test_apart_and_orders(self):
        kinds = set()
        for table in some_tables(7):
            self.assertEqual(apart_in(table), tuple(side for side in sides(table) if side[0] < side[1]))
            self.assertIs(is_order(table), own_is_order(table))
            kinds.add(is_order(table))
        self.assertEqual(kinds, {True, False})
        self.assertEqual(apart_in(table=KNOWN), (("a", "b"), ("a", "d"), ("c", "d")))
        self.assertIs(is_order(table=Table.read("a b c | a b , b c")), False)

    def test_sides_that_go_together(self):
        for table in some_tables():
            for left, right in sides(table):
                found = sides_with(table, left, right)
                self.assertEqual(found, tuple(sorted(going_with(table, (left, right)))))
                self.assertIn((left, right), found)
        self.assertEqual(sides_with(right="b", left="a", table=KNOWN), (("a", "b"), ("a", "d"), ("c", "d")))
        self.assertIn(("b1", "a1"), sides_with(CROWN, "a1", "b1"))
        self.assertEqual(sides_with(Table(["x", "y", "z"], []), "x", "y"), (("x", "y"),))

    def test_wrong_values(self):
        for call in (apart_in, is_order):
            self.refuses_each(BadTable("table"), call, [*no_values(), str(KNOWN)])
        self.refuses_each(BadTable("table"), lambda value: sides_with(value, None, None), no_values())
        for value in [*no_names(), "z", ["a"]]:
            self.refuses(NoHappening(value), sides_with, KNOWN, value, "y")
            self.refuses(NoHappening(value), sides_with, KNOWN, "a", value)
        for left, right in (("a", "a"), ("a", "c"), ("c", "a")):
            self.assertFalse(apart(KNOWN, left, right))
            self.refuses(Unlike("apart"), sides_with, KNOWN, left, right)


class Texts(Case):

    def test_there_and_back(self):
        self.reads(Table, ["a | -", "a b | -", "a b | b a", "a b c d | a c , b c , b d", "a b c | a b , b c", "n0 n1 n2 n3 n4 n5 n6 | n6 n0"])
        for table in some_tables(7):
            self.assertEqual(Table.read(str(table)), table)

    def test_wrong_texts(self):
        self.reads_not(Table, {
            "": 0, "|": 0, "a": 1, "a b": 2, "a a | -": 1, "b a | -": 1, "a |": 2, "a b |": 3, "a b | ": 3, "a b | a": 4, "a b | - -": 4, "a b | - a": 4, "a b | a b -": 5,
            "a b | a b ,": 6, "a b | a b , ": 6, "a b c | a b , a": 8, "a b c | , a b": 4, "a b | b a ,": 6, "A | -": 0, "a b |  a b": 3, "a  | -": 1, " a | -": 0,
            "a b | z a": 3, "a b | a z": 4, "a b | a a": 4, "a b c | b c , a b": 7, "a b c | a c , a b": 8, "a b c | a b , a b": 8, "a b c | a b , b a": 8,
            "a b | a b , b a": 7, "a b c | b c , b a": 8, "a b c | b a , b a": 8, "a b c | a b a c": 6, "a b | a b , a b": 7, "a b | a b | a b": 5, "a , b | -": 1,
            "a b c | a -": 5, "a b | , ": 3, "n0 n1 n2 n3 n4 n5 n6 n7 | -": 7, "n0 n1 n2 n3 n4 n5 n6": 7, "n0 n1 n2 n3 n4 n5 n6 n7": 7, "a b | -1": 3, "a b | a b ,a b": 5})
        self.reads_no_values(Table)

    def test_cut_texts(self):
        """Behind each word of a text that is cut a word is missing, but where a table may end."""
        text = "a b c d | a c , b c , b d"
        words = text.split(" ")
        for many in range(1, len(words)):
            cut = " ".join(words[:many])
            if words[many - 1] in ("c", "d") and many > 6 and words[many - 2] in "ab" and words[many - 3] in "|,":
                self.assertEqual(str(Table.read(cut)), cut)
            else:
                self.refuses(BadText(0, many), Table.read, cut)


class Facts(Case):

    def test_tied_sides_are_both_so_or_neither(self):
        source = random.Random(132)
        for many in range(3, 8):
            for _ in range(6):
                book = random_road(source, many)
                table = Table.of(book)
                for left, right in sides(table):
                    if book.spot_of(left).place[0].is_below(book.spot_of(right).place[0]):
                        for one, other in sides_with(table, left, right):
                            self.assertTrue(book.spot_of(one).place[0].is_below(book.spot_of(other).place[0]))

    def test_books_in_planes_have_tables_too(self):
        plane = Book(2, {"a": (0, [0, 0]), "b": (2, [1, 1]), "c": (0, [1, 0])})
        self.assertEqual(str(Table.of(plane)), "a b c | a b , c b")
