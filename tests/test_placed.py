"""Points 19 and 20, whosefirst/placed.py, whosefirst/parts.py and whosefirst/check_tables.py."""

import random
from itertools import product
from math import factorial

from bent import bent_papers
from helpers import Case, no_lists, no_names, no_values, short
from own_tables import (CROWN, going_with, is_order, is_placed, leads, pattern, patterns, random_order, random_road, sides, some_tables, table_of,
                        tree)
from test_tables import KNOWN, SEVEN
from whosefirst.books import Book
from whosefirst.check_tables import shows_placed
from whosefirst.errors import BadBook, BadPaper, BadTable, Impossible, NoHappening, TooMany, Unlike
from whosefirst.moved import mirrored_book
from whosefirst.papers import Denial, Paper
from whosefirst.parts import all_patterns, bond_of, patterns_count, turned_parts
from whosefirst.placed import NoOrder, Placed, Ring, pattern_of, placed, placed_as
from whosefirst.ratios import Ratio
from whosefirst.tables import Table

TRIO = Table(["x", "y", "z"], [])
MIXED = Table.read("a b c d e | a c , b c , b d , e a , e b , e c , e d")
NO_ORDER = Table.read("a b c | a b , b c")
PATTERN = (("a", "b"), ("a", "d"), ("c", "d"))


class PlacedTables(Case):

    def has_whole_numbers(self, book):
        for name in book:
            spot = book.spot_of(name)
            self.assertEqual([spot.time.bottom, spot.place[0].bottom], [1, 1])

    def test_all_tables(self):
        words = {}
        for table in some_tables(7):
            paper = placed(table)
            words[paper.word] = words.get(paper.word, 0) + 1
            self.assertTrue(is_placed(table, paper))
            self.assertIs(shows_placed(table, paper), True)
            if paper:
                self.has_whole_numbers(paper.book)
            if len(table.names) < 7:
                self.assertEqual(bool(paper), bool(patterns(table)))
            self.assertEqual(paper.word == "noorder", not is_order(table))
            self.assertEqual(placed(Table(table.names[::-1], [list(pair) for pair in table.pairs[::-1]])), paper)
        self.assertGreater(min(words[word] for word in ("placed", "noorder", "ring")), 1)

    def test_by_hand(self):
        found = placed(KNOWN)
        self.assertEqual((found.word, bool(found)), ("placed", True))
        self.assertEqual(Table.of(found.book), KNOWN)
        self.assertEqual(placed(NO_ORDER), NoOrder("a", "b", "c"))
        self.assertEqual(placed(table=CROWN).word, "ring")
        self.assertTrue(is_placed(CROWN, Ring([("a1", "a3"), ("a1", "b1"), ("b2", "b1"), ("b2", "a2"), ("a3", "a2"), ("a3", "b3"), ("a3", "a1")])))
        self.assertEqual(placed(Table(["a"], [])).book.names, ("a",))
        round_about = Table(list("abc"), [("a", "b"), ("b", "c"), ("c", "a")])
        self.assertTrue(is_placed(round_about, placed(round_about)))
        self.assertEqual(placed(round_about).word, "noorder")
        self.assertEqual(placed(Table(CROWN.names, [*CROWN.pairs, ("b1", "a1")])).word, "noorder")

    def test_patterns_of_books(self):
        source = random.Random(140)
        for many in range(1, 9):
            for _ in range(6):
                book = random_road(source, many)
                self.assertEqual(pattern_of(book), pattern(book))
                self.assertEqual(pattern_of(mirrored_book(book, 0)), tuple(sorted(side[::-1] for side in pattern(book))))
        self.assertEqual(pattern_of(book=Book(1, {"a": (0, [0]), "b": (2, [1])})), ())
        self.refuses_each(BadBook("book"), pattern_of, no_values())
        self.refuses(Unlike("road"), pattern_of, Book(2, {"a": (0, [0, 0])}))

    def test_placed_as(self):
        source = random.Random(141)
        for table in some_tables():
            if not placed(table):
                continue
            for due in patterns(table)[:12]:
                told = [list(side) for side in due]
                source.shuffle(told)
                book = placed_as(table, told)
                self.assertIs(type(book), Book)
                self.has_whole_numbers(book)
                self.assertEqual((table_of(book), pattern(book)), (table, due))
                self.assertEqual(placed_as(pattern=due, table=table), placed_as(table, list(due)))
        self.assertEqual(pattern_of(placed_as(KNOWN, [["d", "c"], ["d", "a"], ["b", "a"]])), (("b", "a"), ("d", "a"), ("d", "c")))
        self.assertEqual(len(placed_as(Table(["a", "b"], [("a", "b")]), [])), 2)
        self.assertEqual(len(pattern_of(placed_as(Table(SEVEN, []), [(one, other) for one in SEVEN for other in SEVEN if one < other]))), 21)

    def test_what_is_no_pattern(self):
        for table in some_tables(5):
            if placed(table):
                pairs = [side for side in sides(table) if side[0] < side[1]]
                due = patterns(table)
                for turns in list(product([1, -1], repeat=len(pairs)))[:200]:
                    told = tuple(sorted(pair[::turn] for pair, turn in zip(pairs, turns)))
                    if told in due:
                        self.assertEqual(pattern(placed_as(table, told)), told)
                    else:
                        self.refuses(Unlike("pattern"), placed_as, table, told)
        for told in ([("a", "b"), ("d", "a"), ("c", "d")], [("b", "a"), ("a", "d"), ("c", "d")]):
            self.refuses(Unlike("pattern"), placed_as, KNOWN, told)
        self.refuses(Unlike("pattern"), placed_as, TRIO, [("x", "y"), ("y", "z"), ("z", "x")])

    def test_wrong_patterns(self):
        self.refuses_each(BadTable("table"), lambda value: placed_as(value, None), no_values())
        self.refuses_each(BadPaper("pattern"), lambda value: placed_as(KNOWN, value), [*no_lists(), [], ()])
        for told in (PATTERN[:2], [*PATTERN, PATTERN[0]], [*PATTERN, ("b", "a")], [PATTERN[0], PATTERN[0], PATTERN[1]], [*PATTERN[:2], ("a", "c")], [*PATTERN[:2], ("c", "z")],
                     [*PATTERN, ("a", "c")], [*PATTERN, ("a", "a")], [*PATTERN[:2], ("c",)], [*PATTERN[:2], ("c", "d", "a")], [*PATTERN[:2], "cd"], [*PATTERN, []],
                     [*PATTERN[:2], {"c": 1, "d": 2}]):
            self.refuses(BadPaper("pattern"), placed_as, KNOWN, told)
        for value in [*no_names(), *no_values()]:
            self.refuses(BadPaper("pattern"), placed_as, KNOWN, [*PATTERN[:2], ("c", value)])
            self.refuses(BadPaper("pattern"), placed_as, KNOWN, [*PATTERN[:2], value])
        # What is no list of sides comes ahead of a table of no book, this ahead of what is no pattern.
        self.refuses(BadPaper("pattern"), placed_as, NO_ORDER, [])
        self.refuses(Impossible(placed(NO_ORDER)), placed_as, NO_ORDER, [("a", "c")])
        ring = [side for side in sides(CROWN) if side[0] < side[1]]
        self.refuses(Impossible(placed(CROWN)), placed_as, CROWN, ring)
        self.refuses(BadPaper("pattern"), placed_as, CROWN, ring[1:])
        self.refuses_each(BadTable("table"), placed, no_values())

    def test_papers(self):
        book = Book(1, {"a": (0, [0])})
        found, gap, ring = Placed(book=book), NoOrder(other=3, middle=2, one=1), Ring(pairs=[["a", "b"]])
        self.assertEqual([found.word, gap.word, ring.word, bool(found), bool(gap), bool(ring)], ["placed", "noorder", "ring", True, False, False])
        self.assertEqual([found.book, gap.one, gap.middle, gap.other, ring.pairs], [book, 1, 2, 3, (("a", "b"),)])
        self.assertEqual([found.parts, gap.parts, ring.parts], [(book,), (1, 2, 3), ((("a", "b"),),)])
        self.differs(ring, [Denial("ring", [("a", "b")]), Ring([]), found])
        self.differs(found, [Paper("placed", book), Placed(None)])


class Parts(Case):

    def test_turned_parts_and_counts(self):
        kinds = set()
        for table in some_tables(6):
            if placed(table):
                due = patterns(table)
                self.assertEqual(turned_parts(table), tree(table, table.names))
                self.assertEqual(patterns_count(table), len(due))
                kinds.add(turned_parts(table)[0] if len(table.names) > 1 else None)
                if len(table.names) <= 5:
                    self.assertEqual(all_patterns(table), tuple(due))
        self.assertEqual(kinds, {None, "beside", "behind", "bound"})

    def test_seven_names(self):
        source = random.Random(142)
        for _ in range(4):
            table = random_order(source, 7)
            if placed(table):
                self.assertEqual(patterns_count(table), len(patterns(table)))
        self.assertEqual(patterns_count(Table(SEVEN, [])), factorial(7))
        self.assertEqual(turned_parts(Table(SEVEN, [])), ("beside", *SEVEN))
        line = Table(SEVEN[::-1], [(one, other) for one in SEVEN for other in SEVEN if one > other])
        self.assertEqual((turned_parts(line), patterns_count(line)), (("behind", *SEVEN[::-1]), 1))

    def test_by_hand(self):
        self.assertEqual([turned_parts(KNOWN), turned_parts(MIXED), turned_parts(table=Table.read("a b c | a b"))],
                         [("bound", "a", "b", "c", "d"), ("behind", "e", ("bound", "a", "b", "c", "d")), ("beside", ("behind", "a", "b"), "c")])
        self.assertEqual([turned_parts(Table(["a"], [])), patterns_count(Table(["a"], [])), all_patterns(Table(["a"], []))], ["a", 1, ((),)])
        self.assertEqual([patterns_count(table=TRIO), patterns_count(KNOWN), patterns_count(MIXED)], [6, 2, 2])
        self.assertEqual(all_patterns(table=Table.read("a b c | a b")), ((("a", "c"), ("b", "c")), (("c", "a"), ("c", "b"))))
        self.assertEqual(all_patterns(Table(["a", "b"], [("b", "a")])), ((),))
        # Parts in parts: two of a "bound" of four names stand for more, apart and behind one another.
        wide = Table.read("a b c d e f | a c , a f , b c , b d , b e , b f , c f")
        self.assertEqual(turned_parts(wide), tree(wide, wide.names))
        self.assertEqual(patterns_count(wide), len(patterns(wide)))
        inner = Table.read("a b c d e | a c , a e , b c , b d , b e")
        self.assertEqual(turned_parts(inner), ("bound", "a", "b", ("beside", "c", "e"), "d"))
        self.assertEqual((patterns_count(inner), all_patterns(inner)), (4, tuple(patterns(inner))))

    def test_bonds(self):
        bonds = set()
        for table in some_tables(5):
            if placed(table):
                due = [set(told) for told in patterns(table)]
                for one, other in product(sides(table), repeat=2):
                    ways = {(one in told) == (other in told) for told in due}
                    bond = {(True,): "together", (False,): "against"}.get(tuple(ways), "free")
                    self.assertEqual(bond_of(table, *one, *other), bond)
                    bonds.add(bond)
                    self.assertEqual(bond == "together", other in going_with(table, one))
        self.assertEqual(bonds, {"together", "against", "free"})
        self.assertEqual([bond_of(KNOWN, "a", "b", "d", "c"), bond_of(fourth="z", third="y", other="y", one="x", table=TRIO), bond_of(KNOWN, "a", "b", "a", "b")],
                         ["against", "free", "together"])

    def test_a_pattern_turned_about_is_one(self):
        for table in some_tables(5):
            if placed(table):
                for told in all_patterns(table):
                    self.assertIn(tuple(sorted(side[::-1] for side in told)), all_patterns(table))

    def test_errors(self):
        seven = Table([*CROWN.names, "c"], CROWN.pairs)
        for call in (turned_parts, patterns_count, all_patterns):
            self.refuses_each(BadTable("table"), call, no_values())
            self.refuses(Impossible(placed(NO_ORDER)), call, NO_ORDER)
        for call in (turned_parts, patterns_count):
            for table in (CROWN, seven):
                self.refuses(Impossible(placed(table)), call, table)
        for table in (CROWN, seven, Table(SEVEN[:6], [])):
            self.refuses(TooMany("names", 5), all_patterns, table)
        self.assertEqual(len(all_patterns(Table(SEVEN[:5], []))), 120)

    def test_wrong_bonds(self):
        self.refuses_each(BadTable("table"), lambda value: bond_of(value, None, None, None, None), no_values())
        for value in [*no_names(), "z", ["a"]]:
            self.refuses(NoHappening(value), bond_of, KNOWN, value, "y", "y", "y")
            self.refuses(NoHappening(value), bond_of, KNOWN, "a", value, "y", "y")
            self.refuses(NoHappening(value), bond_of, KNOWN, "a", "a", value, "y")
            self.refuses(NoHappening(value), bond_of, KNOWN, "a", "a", "a", value)
        for names in (("a", "a", "c", "d"), ("a", "c", "c", "d"), ("a", "b", "b", "c"), ("a", "b", "b", "b")):
            self.refuses(Unlike("apart"), bond_of, KNOWN, *names)
        self.refuses(Impossible(placed(NO_ORDER)), bond_of, NO_ORDER, "a", "c", "c", "a")
        self.refuses(Unlike("apart"), bond_of, NO_ORDER, "a", "c", "a", "b")


class Shown(Case):

    def test_bent_papers(self):
        source = random.Random(143)
        looked = {True: 0, False: 0}
        for table in some_tables():
            papers = bent_papers(placed(table))
            for paper in papers if len(papers) < 150 else source.sample(papers, 150):
                due = is_placed(table, paper)
                with self.subTest(table=str(table), paper=short(paper.parts)):
                    self.assertIs(shows_placed(table, paper), due)
                looked[due] += 1
        self.assertGreater(min(looked.values()), 50)

    def test_any_three_names(self):
        for table in [table for table in some_tables(5) if not is_order(table)]:
            for names in product([*table.names, "zz"], repeat=3):
                self.assertIs(shows_placed(table, NoOrder(*names)), is_placed(table, NoOrder(*names)))

    def test_by_hand(self):
        self.assertIs(shows_placed(CROWN, placed(CROWN)), True)
        self.assertIs(shows_placed(KNOWN, Ring([("a", "b"), ("a", "d"), ("b", "a")])), False)
        self.assertIs(shows_placed(KNOWN, Placed(Book(1, {"a": (0, [0])}))), False)
        ring = [("a1", "a3"), ("a1", "b1"), ("b2", "b1"), ("b2", "a2"), ("a3", "a2"), ("a3", "b3"), ("a3", "a1")]
        self.assertIs(shows_placed(value=Ring(ring), table=CROWN), True)
        self.assertIs(shows_placed(CROWN, Ring([list(side) for side in ring])), True)
        for told in (ring[1:], ring[:-1], ring[::2], [*ring, *ring], [], ring[:1], [ring[0], ring[-1]], None, [None], [("a1", "zz")], ["ab", "cd"], [("a1",)] * 2, [("a1", 1)] * 2):
            self.assertIs(shows_placed(CROWN, Ring(told)), is_placed(CROWN, Ring(told)))
        longer = [ring[0], ring[1], ring[0], *ring[1:]]
        self.assertIs(shows_placed(CROWN, Ring(longer)), True)

    def test_a_book_of_ratios_does_as_well(self):
        book = Book(1, {"a": (Ratio(1, 2), [Ratio(1, 3)]), "b": (Ratio(5, 2), [0])})
        self.assertIs(shows_placed(Table.of(book), Placed(book)), True)
        self.assertIs(shows_placed(Table(["a", "b"], []), Placed(book)), False)
        plane = Book(2, {"a": (0, [0, 0]), "b": (2, [0, 0])})
        self.assertIs(shows_placed(Table.of(plane), Placed(plane)), False)
        eight = random_road(random.Random(144), 8)
        self.assertIs(shows_placed(Table(eight.names[:7], []), Placed(eight)), False)

    def test_a_ring_of_a_table_that_is_no_order(self):
        table = Table([*CROWN.names, "c"], [*CROWN.pairs, ("b2", "c")])
        self.assertEqual(placed(table), NoOrder("a1", "b2", "c"))
        ring = placed(CROWN)
        self.assertTrue(is_placed(table, ring))
        self.assertIs(shows_placed(table, ring), True)
        self.assertIs(shows_placed(Table([*CROWN.names, "c"], [*CROWN.pairs, ("a1", "b1")]), ring), False)

    def test_only_these_papers(self):
        for value in [*no_values(), Paper("placed", Book(1, {"a": (0, [0])})), Denial("ring", []), KNOWN]:
            self.assertIs(shows_placed(KNOWN, value), False)
        for value in [*no_values(), *no_names()]:
            self.assertIs(shows_placed(KNOWN, Placed(value)), False)
            self.assertIs(shows_placed(KNOWN, Ring(value)), False)
            self.assertIs(shows_placed(NO_ORDER, NoOrder("a", "b", value)), False)
            self.assertIs(shows_placed(NO_ORDER, NoOrder("a", value, "c")), False)
        self.assertIs(shows_placed(NO_ORDER, NoOrder("a", "b", "c")), True)
        self.assertTrue(leads(NO_ORDER, "a", "b"))
        self.refuses_each(BadTable("table"), lambda value: shows_placed(value, None), no_values())
